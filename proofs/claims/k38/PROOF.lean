import PyProof.Rows.All
import Wide.All
import OpenK.AllK
import Wide.FinOn
import HandS.ForExc
import HandS.Lambda
import HandS.CallSlots
import HandS.TryMany
import HandS.Flow
import HandS.Wide
import HandS.WideBits
import HandS.TupMul
import HandS.Style
import HandS.IsInst
import HandS.Gcd
import HandS.TupAny
import HandS.Codes
import HandS.Dict
import HandS.WordsDict
import HandS.RevRange
import HandS.ExcInit
import HandS.Comp
import HandS.GenList
import HandS.Star
import PyProof.P3In
import HandS.Zip
import KE.GoesMore
import KE.GoesEnum
import HandS.Flt
import KE.KTupSum
import KE.KExcIs
import HandS.EndTab
import PyProof.FitsInt
import KE.IntBitsLaws
import HandS.Words
import PySem.Challenge.RW_quotientcells_k38_exact_quotients_by_int
section
set_option Elab.async false
set_option linter.all false
set_option maxRecDepth 100000
set_option autoImplicit false
/-! Values as plain data, the store of lists and dicts, how they lie in the abstract heap. -/
namespace Q
open PySem PySem.Spec PyProof.Rows L2

inductive D where
  | non | bl (b : Bool) | int (i : Int) | str (x : Str) | tup (ds : List D) | fz (ds : List D) | loc (n : Nat) | exo (k : Nat)
  deriving Inhabited

inductive Ob where
  | lst (ds : List D) | dK (kvs : List (Key × D)) | dT (kvs : List (List Key × D))
  deriving Inhabited

abbrev Sto := List Ob

inductive Res (α : Type) where
  | ok (a : α) (st : Sto) | exc (c : Nat) (d : D) (st : Sto) | err

def Res.bind {α β : Type} : Res α → (α → Sto → Res β) → Res β
  | .ok a st, f => f a st
  | .exc c d st, _ => .exc c d st
  | .err, _ => .err

abbrev Ev := List (Option D)

def NT (o : HO) : Prop := ∀ ps, o ≠ .tbl ps

/-- a locked list, or one of the written part -/
def SqF (K : PySem.W.Frag) (H : Hp) (a : Addr) (xs : List V) : Prop :=
  (∃ o, H a = some (.frz o (.lst xs))) ∨
    ∃ (o : Obj) (its : Array Value) (n : Nat), K.lookup a = some o ∧ o.cls = .type "list" ∧ o.dict = none ∧ o.data = .seq its n ∧ its.size ≤ sizeLine ∧ Vals xs its.toList
theorem SqF.sq {K : PySem.W.Frag} {H : Hp} {a : Addr} {xs : List V} (h : SqF K H a xs) : SqL K H a xs := h.elim (fun h => .inl (.inr h)) .inr
theorem SqF.of_sq {K : PySem.W.Frag} {H : Hp} {a : Addr} {xs : List V} (h : SqL K H a xs) (n : ∀ ys, H a ≠ some (.lst ys)) : SqF K H a xs := by
  rcases h with (h | h) | h
  · exact absurd h (n _)
  · exact .inl h
  · exact .inr h

section
variable (K : PySem.W.Frag) (M : List Addr) (H : Hp)
mutual
def DV : D → V → Prop
  | .non, v => v = .non
  | .bl b, v => v = .bl b
  | .int i, v => v = .int i
  | .str x, v => v = .str x
  | .tup ds, v => ∃ a vs, v = .ref a ∧ SqT K H a vs ∧ DVs ds vs
  | .fz ds, v => ∃ a vs, v = .ref a ∧ SqF K H a vs ∧ DVs ds vs
  | .loc n, v => ∃ a, v = .ref a ∧ M[n]? = some a
  | .exo _, _ => False
def DVs : List D → List V → Prop
  | [], vs => vs = []
  | d :: ds, vs => ∃ v vr, vs = v :: vr ∧ DV d v ∧ DVs ds vr
end
def DKs {κ : Type} : List (κ × D) → List (κ × V) → Prop
  | [], vs => vs = []
  | (k, d) :: ds, vs => ∃ v vr, vs = (k, v) :: vr ∧ DV K M H d v ∧ DKs ds vr
def ObV (a : Addr) : Ob → Prop
  | .lst ds => ∃ vs, H a = some (.lst vs) ∧ DVs K M H ds vs
  | .dK kvs => ∃ vs, H a = some (.dK vs) ∧ DKs K M H kvs vs
  | .dT kvs => ∃ vs, H a = some (.dT vs) ∧ DKs K M H kvs vs
structure Rel (st : Sto) : Prop where
  len : M.length = st.length
  nd : M.Nodup
  ob : ∀ (n : Nat) (o : Ob), st[n]? = some o → ∃ a : Addr, M[n]? = some a ∧ ObV K M H a o
end
/-- nothing there, or a table -/
def Tb (H : Hp) (a : Addr) : Prop := ∀ o, H a = some o → ¬ NT o
theorem tb_none {H : Hp} {a : Addr} (h : H a = none) : Tb H a := fun o e => by rw [h] at e; cases e
structure Stp (M : List Addr) (H : Hp) (M' : List Addr) (H' : Hp) : Prop where
  pre : ∃ more, M' = M ++ more ∧ ∀ a ∈ more, Tb H a
  keep : ∀ b o, H b = some o → b ∉ M → NT o → H' b = some o
  dom : ∀ b o, H b = some o → NT o → ∃ o', H' b = some o' ∧ NT o'
theorem Stp.refl (M : List Addr) (H : Hp) : Stp M H M H := ⟨⟨[], by simp, by simp⟩, fun _ _ h _ _ => h, fun _ _ h n => ⟨_, h, n⟩⟩
theorem Stp.tb {M M' : List Addr} {H H' : Hp} (s : Stp M H M' H') {a : Addr} (h : Tb H' a) : Tb H a := fun o e n => by
  obtain ⟨o', e', n'⟩ := s.dom a o e n
  exact h o' e' n'
theorem Stp.trans {M M1 M2 : List Addr} {H H1 H2 : Hp} (a : Stp M H M1 H1) (b : Stp M1 H1 M2 H2) : Stp M H M2 H2 := by
  obtain ⟨m1, e1, n1⟩ := a.pre
  obtain ⟨m2, e2, n2⟩ := b.pre
  refine ⟨⟨m1 ++ m2, by rw [e2, e1, List.append_assoc], fun x hx => ?_⟩, fun x o h hx n => b.keep x o (a.keep x o h hx n) (fun z => ?_) n, fun x o h n => ?_⟩
  · rcases List.mem_append.mp hx with h | h
    · exact n1 x h
    · exact a.tb (n2 x h)
  · rw [e1] at z
    rcases List.mem_append.mp z with z | z
    · exact hx z
    · exact n1 x z o h n
  · obtain ⟨o', h', n'⟩ := a.dom x o h n
    exact b.dom x o' h' n'
theorem Stp.get {M M' : List Addr} {H H' : Hp} (s : Stp M H M' H') {n : Nat} {a : Addr} (h : M[n]? = some a) : M'[n]? = some a := by
  obtain ⟨more, e, _⟩ := s.pre
  rw [e, List.getElem?_append_left (List.getElem?_eq_some_iff.mp h).1]
  exact h
/-- but for tables all stays -/
theorem Stp.ext {M : List Addr} {H H' : Hp} (h : ∀ b o, H b = some o → NT o → H' b = some o) : Stp M H M H' := ⟨⟨[], by simp, by simp⟩, fun b o e _ n => h b o e n, fun b o e n => ⟨o, h b o e n, n⟩⟩

/-- what a location's object is -/
def IsMut (o : HO) : Prop := (∃ xs, o = .lst xs) ∨ (∃ xs, o = .dK xs) ∨ ∃ xs, o = .dT xs
def MOk (M : List Addr) (H : Hp) : Prop := ∀ a ∈ M, ∃ o, H a = some o ∧ IsMut o
theorem Rel.mok {K : PySem.W.Frag} {M : List Addr} {H : Hp} {st : Sto} (r : Rel K M H st) : MOk M H := fun a ha => by
  obtain ⟨n, hn, e⟩ := List.getElem_of_mem ha
  have hl : n < st.length := by rw [← r.len]; exact hn
  obtain ⟨b, hb, q⟩ := r.ob n st[n] (List.getElem?_eq_getElem hl)
  rw [List.getElem?_eq_getElem hn, e] at hb
  cases hb
  cases ho : st[n] with
  | lst ds => rw [ho] at q; obtain ⟨vs, h, _⟩ := q; exact ⟨_, h, .inl ⟨vs, rfl⟩⟩
  | dK ds => rw [ho] at q; obtain ⟨vs, h, _⟩ := q; exact ⟨_, h, .inr (.inl ⟨vs, rfl⟩)⟩
  | dT ds => rw [ho] at q; obtain ⟨vs, h, _⟩ := q; exact ⟨_, h, .inr (.inr ⟨vs, rfl⟩)⟩
theorem MOk.not {M : List Addr} {H : Hp} (m : MOk M H) {a : Addr} {o : HO} (h : H a = some o) (n : ¬ IsMut o) : a ∉ M := fun ha => by
  obtain ⟨o', h', q⟩ := m a ha
  rw [h] at h'; cases h'
  exact n q
theorem notMut_tup {xs : List V} : ¬ IsMut (.tup xs) := fun h => by
  rcases h with ⟨_, h⟩ | ⟨_, h⟩ | ⟨_, h⟩ <;> cases h
theorem notMut_frz {o : Obj} {u : HO} : ¬ IsMut (.frz o u) := fun h => by
  rcases h with ⟨_, h⟩ | ⟨_, h⟩ | ⟨_, h⟩ <;> cases h
theorem nt_tup {xs : List V} : NT (.tup xs) := fun _ h => by cases h
theorem nt_lst {xs : List V} : NT (.lst xs) := fun _ h => by cases h
theorem nt_frz {o : Obj} {u : HO} : NT (.frz o u) := fun _ h => by cases h
theorem nt_mut {o : HO} (h : IsMut o) : NT o := fun ps e => by
  rcases h with ⟨_, h⟩ | ⟨_, h⟩ | ⟨_, h⟩ <;> rw [e] at h <;> cases h
section
variable {K : PySem.W.Frag} {M M' : List Addr} {H H' : Hp}
theorem sqT_mono (m : MOk M H) (s : Stp M H M' H') {a : Addr} {vs : List V} (h : SqT K H a vs) : SqT K H' a vs := by
  rcases h with (h | ⟨o, h⟩) | h
  · exact .inl (.inl (s.keep _ _ h (m.not h notMut_tup) nt_tup))
  · exact .inl (.inr ⟨o, s.keep _ _ h (m.not h notMut_frz) nt_frz⟩)
  · exact .inr h
theorem sqF_mono (m : MOk M H) (s : Stp M H M' H') {a : Addr} {vs : List V} (h : SqF K H a vs) : SqF K H' a vs := by
  rcases h with ⟨o, h⟩ | h
  · exact .inl ⟨o, s.keep _ _ h (m.not h notMut_frz) nt_frz⟩
  · exact .inr h
mutual
theorem DV.mono (m : MOk M H) (s : Stp M H M' H') : ∀ {d : D} {v : V}, DV K M H d v → DV K M' H' d v
  | .non, _, h => by unfold DV at h ⊢; exact h
  | .bl b, _, h => by unfold DV at h ⊢; exact h
  | .int b, _, h => by unfold DV at h ⊢; exact h
  | .str b, _, h => by unfold DV at h ⊢; exact h
  | .tup ds, v, h => by
    unfold DV at h ⊢
    obtain ⟨a, vs, e, h1, h2⟩ := h
    exact ⟨a, vs, e, sqT_mono m s h1, DVs.mono m s h2⟩
  | .fz ds, v, h => by
    unfold DV at h ⊢
    obtain ⟨a, vs, e, h1, h2⟩ := h
    exact ⟨a, vs, e, sqF_mono m s h1, DVs.mono m s h2⟩
  | .loc n, v, h => by
    unfold DV at h ⊢
    obtain ⟨a, e, h1⟩ := h
    exact ⟨a, e, s.get h1⟩
  | .exo _, v, h => by
    unfold DV at h
    exact h.elim
theorem DVs.mono (m : MOk M H) (s : Stp M H M' H') : ∀ {ds : List D} {vs : List V}, DVs K M H ds vs → DVs K M' H' ds vs
  | [], _, h => by unfold DVs at h ⊢; exact h
  | d :: ds, vs, h => by
    unfold DVs at h ⊢
    obtain ⟨v, vr, e, h1, h2⟩ := h
    exact ⟨v, vr, e, DV.mono m s h1, DVs.mono m s h2⟩
end
theorem DKs.mono (m : MOk M H) (s : Stp M H M' H') {κ : Type} : ∀ {ds : List (κ × D)} {vs : List (κ × V)}, DKs K M H ds vs → DKs K M' H' ds vs
  | [], _, h => by unfold DKs at h ⊢; exact h
  | (k, d) :: ds, vs, h => by
    unfold DKs at h ⊢
    obtain ⟨v, vr, e, h1, h2⟩ := h
    exact ⟨v, vr, e, h1.mono m s, DKs.mono m s h2⟩
theorem DVs.length : ∀ {ds : List D} {vs : List V}, DVs K M H ds vs → ds.length = vs.length
  | [], vs, h => by unfold DVs at h; rw [h]; rfl
  | d :: ds, vs, h => by
    unfold DVs at h
    obtain ⟨v, vr, e, h1, h2⟩ := h
    rw [e, List.length_cons, List.length_cons, DVs.length h2]
theorem DVs.get : ∀ {ds : List D} {vs : List V} {i : Nat} {d : D}, DVs K M H ds vs → ds[i]? = some d → ∃ v, vs[i]? = some v ∧ DV K M H d v
  | [], vs, i, d, h, e => by simp at e
  | d :: ds, vs, 0, d', h, e => by
    unfold DVs at h
    obtain ⟨v, vr, q, h1, h2⟩ := h
    simp at e
    subst e
    exact ⟨v, by rw [q]; rfl, h1⟩
  | d :: ds, vs, i + 1, d', h, e => by
    unfold DVs at h
    obtain ⟨v, vr, q, h1, h2⟩ := h
    rw [q]
    simpa using DVs.get h2 (by simpa using e)
theorem DVs.append : ∀ {ds es : List D} {vs ws : List V}, DVs K M H ds vs → DVs K M H es ws → DVs K M H (ds ++ es) (vs ++ ws)
  | [], es, vs, ws, h, g => by unfold DVs at h; rw [h]; exact g
  | d :: ds, es, vs, ws, h, g => by
    unfold DVs at h
    obtain ⟨v, vr, q, h1, h2⟩ := h
    rw [q]
    show DVs K M H (d :: (ds ++ es)) (v :: (vr ++ ws))
    unfold DVs
    exact ⟨v, vr ++ ws, rfl, h1, DVs.append h2 g⟩
theorem dvs_nil : DVs K M H [] [] := by unfold DVs; rfl
theorem dvs_cons {d : D} {ds : List D} {v : V} {vs : List V} (h : DV K M H d v) (t : DVs K M H ds vs) : DVs K M H (d :: ds) (v :: vs) := by unfold DVs; exact ⟨v, vs, rfl, h, t⟩
theorem DVs.cons_inv {d : D} {ds : List D} {vs : List V} (h : DVs K M H (d :: ds) vs) : ∃ v vr, vs = v :: vr ∧ DV K M H d v ∧ DVs K M H ds vr := by unfold DVs at h; exact h
theorem DVs.nil_inv {vs : List V} (h : DVs K M H [] vs) : vs = [] := by unfold DVs at h; exact h
theorem DVs.take : ∀ {ds : List D} {vs : List V} (n : Nat), DVs K M H ds vs → DVs K M H (ds.take n) (vs.take n)
  | [], vs, n, h => by rw [h.nil_inv]; simp; exact dvs_nil
  | d :: ds, vs, 0, h => by simp; exact dvs_nil
  | d :: ds, vs, n + 1, h => by
    obtain ⟨v, vr, q, h1, h2⟩ := h.cons_inv
    rw [q]
    exact dvs_cons h1 (DVs.take n h2)
theorem DVs.drop : ∀ {ds : List D} {vs : List V} (n : Nat), DVs K M H ds vs → DVs K M H (ds.drop n) (vs.drop n)
  | [], vs, n, h => by rw [h.nil_inv]; simp; exact dvs_nil
  | d :: ds, vs, 0, h => h
  | d :: ds, vs, n + 1, h => by
    obtain ⟨v, vr, q, h1, h2⟩ := h.cons_inv
    rw [q]
    exact DVs.drop n h2
theorem DVs.reverse : ∀ {ds : List D} {vs : List V}, DVs K M H ds vs → DVs K M H ds.reverse vs.reverse
  | [], vs, h => by rw [h.nil_inv]; exact dvs_nil
  | d :: ds, vs, h => by
    obtain ⟨v, vr, q, h1, h2⟩ := h.cons_inv
    rw [q, List.reverse_cons, List.reverse_cons]
    exact (DVs.reverse h2).append (dvs_cons h1 dvs_nil)
theorem DVs.set : ∀ {ds : List D} {vs : List V} {d : D} {v : V} (i : Nat), DV K M H d v → DVs K M H ds vs → DVs K M H (ds.set i d) (vs.set i v)
  | [], vs, d, v, i, r, h => by rw [h.nil_inv]; exact dvs_nil
  | d' :: ds, vs, d, v, 0, r, h => by
    obtain ⟨v', vr, q, h1, h2⟩ := h.cons_inv
    rw [q]
    exact dvs_cons r h2
  | d' :: ds, vs, d, v, i + 1, r, h => by
    obtain ⟨v', vr, q, h1, h2⟩ := h.cons_inv
    rw [q]
    exact dvs_cons h1 (DVs.set i r h2)
theorem dvs_ints : ∀ (ns : List Int), DVs K M H (ns.map D.int) (ns.map V.int)
  | [] => dvs_nil
  | n :: ns => dvs_cons (by unfold DV; rfl) (dvs_ints ns)
end

/-! ### how the store changes -/
section
variable {K : PySem.W.Frag} {M : List Addr} {H : Hp} {st : Sto} {p : Addr} {o : HO}
/-- a new object that is no location's -/
theorem stp_new (hp : H p = none) : Stp M H M (upd H p o) :=
  ⟨⟨[], by simp, by simp⟩, fun b o' h _ _ => by rw [upd_ne (ne_of_none h hp)]; exact h, fun b o' h n => ⟨o', by rw [upd_ne (ne_of_none h hp)]; exact h, n⟩⟩
theorem ObV.mono {M' : List Addr} {H' : Hp} (m : MOk M H) (s : Stp M H M' H') {a : Addr} {o : Ob} (h : ObV K M H a o) (e : H' a = H a) : ObV K M' H' a o := by
  cases o with
  | lst ds => obtain ⟨vs, h1, h2⟩ := h; exact ⟨vs, e.trans h1, h2.mono m s⟩
  | dK ds => obtain ⟨vs, h1, h2⟩ := h; exact ⟨vs, e.trans h1, h2.mono m s⟩
  | dT ds => obtain ⟨vs, h1, h2⟩ := h; exact ⟨vs, e.trans h1, h2.mono m s⟩
theorem Rel.new (r : Rel K M H st) (hp : H p = none) : Rel K M (upd H p o) st := by
  refine ⟨r.len, r.nd, fun n ob e => ?_⟩
  obtain ⟨a, h1, h2⟩ := r.ob n ob e
  refine ⟨a, h1, h2.mono r.mok (stp_new hp) (upd_ne ?_)⟩
  obtain ⟨o', h3, _⟩ := r.mok a (List.mem_of_getElem? h1)
  exact ne_of_none h3 hp
/-- a new location -/
theorem stp_loc (hp : H p = none) : Stp M H (M ++ [p]) (upd H p o) :=
  ⟨⟨[p], rfl, fun a ha => by rw [List.mem_singleton.mp ha]; exact tb_none hp⟩, fun b o' h _ _ => by rw [upd_ne (ne_of_none h hp)]; exact h, fun b o' h n => ⟨o', by rw [upd_ne (ne_of_none h hp)]; exact h, n⟩⟩
theorem Rel.loc {ob : Ob} (r : Rel K M H st) (hp : H p = none) (h : ObV K (M ++ [p]) (upd H p o) p ob) : Rel K (M ++ [p]) (upd H p o) (st ++ [ob]) := by
  have np : p ∉ M := fun z => by
    obtain ⟨o', h3, _⟩ := r.mok p z
    rw [hp] at h3; cases h3
  refine ⟨by rw [List.length_append, List.length_append, r.len]; rfl, List.nodup_append.mpr ⟨r.nd, by simp, fun a ha b hb e => ?_⟩, fun n ob' e => ?_⟩
  · rw [List.mem_singleton.mp hb] at e
    rw [e] at ha
    exact np ha
  · by_cases hn : n < st.length
    · rw [List.getElem?_append_left hn] at e
      obtain ⟨a, h1, h2⟩ := r.ob n ob' e
      refine ⟨a, (stp_loc (o := o) hp).get h1, h2.mono r.mok (stp_loc hp) (upd_ne fun z => np ?_)⟩
      rw [← z]
      exact List.mem_of_getElem? h1
    · have e2 : n = st.length := by
        have := (List.getElem?_eq_some_iff.mp e).1
        rw [List.length_append, List.length_singleton] at this
        omega
      subst e2
      rw [List.getElem?_append_right (Nat.le_refl _), Nat.sub_self] at e
      simp at e
      subst e
      exact ⟨p, by rw [← r.len, List.getElem?_append_right (Nat.le_refl _), Nat.sub_self]; rfl, h⟩
theorem nodup_ixA {N : List Addr} (hN : N.Nodup) {i j : Nat} {x : Addr} (a : N[i]? = some x) (b : N[j]? = some x) : i = j := by
  obtain ⟨_, e1⟩ := List.getElem?_eq_some_iff.mp a
  obtain ⟨_, e2⟩ := List.getElem?_eq_some_iff.mp b
  exact (List.getElem_inj hN).mp (e1.trans e2.symm)
/-- a location is written -/
theorem ObV.nt {K : PySem.W.Frag} {M : List Addr} {H : Hp} {a : Addr} {ob : Ob} (h : ObV K M H a ob) : ∃ o, H a = some o ∧ NT o := by
  cases ob with
  | lst ds => obtain ⟨vs, h, _⟩ := h; exact ⟨_, h, nt_mut (.inl ⟨_, rfl⟩)⟩
  | dK ds => obtain ⟨vs, h, _⟩ := h; exact ⟨_, h, nt_mut (.inr (.inl ⟨_, rfl⟩))⟩
  | dT ds => obtain ⟨vs, h, _⟩ := h; exact ⟨_, h, nt_mut (.inr (.inr ⟨_, rfl⟩))⟩
theorem stp_set {n : Nat} (hm : M[n]? = some p) (ho : NT o) : Stp M H M (upd H p o) :=
  ⟨⟨[], by simp, by simp⟩, fun b o' h hb _ => by rw [upd_ne (fun z => hb (by rw [z]; exact List.mem_of_getElem? hm))]; exact h, fun b o' h n => by
    by_cases e : b = p
    · exact ⟨o, by rw [e, upd_same], ho⟩
    · exact ⟨o', by rw [upd_ne e]; exact h, n⟩⟩
theorem Rel.set {n : Nat} {ob : Ob} (r : Rel K M H st) (hm : M[n]? = some p) (h : ObV K M (upd H p o) p ob) : Rel K M (upd H p o) (st.set n ob) := by
  have ho : NT o := by
    obtain ⟨o1, e1, n1⟩ := h.nt
    rw [upd_same] at e1
    cases e1
    exact n1
  refine ⟨by rw [List.length_set]; exact r.len, r.nd, fun m ob' e => ?_⟩
  by_cases hn : m = n
  · subst hn
    have hl := (List.getElem?_eq_some_iff.mp e).1
    rw [List.getElem?_set_self (by rw [List.length_set] at hl; exact hl)] at e
    cases e
    exact ⟨p, hm, h⟩
  · rw [List.getElem?_set_ne (Ne.symm hn)] at e
    obtain ⟨a, h1, h2⟩ := r.ob m ob' e
    refine ⟨a, h1, h2.mono r.mok (stp_set hm ho) (upd_ne fun z => hn ?_)⟩
    rw [z] at h1
    exact nodup_ixA r.nd h1 hm
end
end Q
end

section
set_option Elab.async false
set_option linter.all false
set_option maxRecDepth 100000
set_option autoImplicit false
/-! What is wanted behind an evaluation, by data; the rules for expressions. -/
namespace Q
open PySem PySem.Spec PyProof.Rows L2

structure Par where
  /-- the tables of code objects: the name of those within that are functions -/
  T : List (Addr × Str)
  CA : Nat → Addr
  FN : Nat → Str
  XV : List (Addr × Str × D) := []
  /-- what the slots of .exo k hold -/
  xa : Nat → Option Addr := fun _ => none
  /-- what stood before -/
  SB : List (List Addr × Hp) := []

abbrev TabP (H : Hp) (t : Addr) (q : Str) : Prop := LamX.TabS H t q

structure At (K : PySem.W.Frag) (P : Par) (M : List Addr) (H : Hp) (st : Sto) : Prop where
  rel : Rel K M H st
  tab : ∀ p ∈ P.T, TabP H p.1 p.2
  exn : ∀ q ∈ P.XV, ∃ v, H q.1 = some (.xd [(q.2.1, v)]) ∧ DV K M H q.2.2 v
  sup : ∀ q ∈ P.SB, Stp q.1 q.2 M H ∧ MOk q.1 q.2

/-- a slot's value: data, or the exception that an except suite holds -/
def DVx (K : PySem.W.Frag) (P : Par) (M : List Addr) (H : Hp) (d : D) (v : V) : Prop := match d with
  | .exo k => ∃ a, P.xa k = some a ∧ v = .ref a
  | d => DV K M H d v
def EvR (K : PySem.W.Frag) (P : Par) (M : List Addr) (H : Hp) (σ : L2.St) (env : Ev) : Prop :=
  env.length = σ.length ∧ ∀ (i : Nat) (d : D), env[i]? = some (some d) → ∃ v, σ[i]? = some (some v) ∧ DVx K P M H d v

section
variable {K : PySem.W.Frag} {P : Par} {M M' M1 : List Addr} {H H' H1 : Hp} {st st' : Sto} {σ : L2.St} {env : Ev}
theorem At.mok (a : At K P M H st) : MOk M H := a.rel.mok
theorem dv_exo {k : Nat} {v : V} (h : DV K M H (.exo k) v) : False := by unfold DV at h; exact h
theorem DV.x {d : D} {v : V} (h : DV K M H d v) : DVx K P M H d v := by
  unfold DVx
  split
  · exact (dv_exo h).elim
  · exact h
theorem DVx.mono (m : MOk M H) (s : Stp M H M' H') {d : D} {v : V} (h : DVx K P M H d v) : DVx K P M' H' d v := by
  unfold DVx at h ⊢
  split
  · exact h
  · split at h
    · rename_i z; exact (z _ rfl).elim
    · exact h.mono m s
theorem EvR.mono (m : MOk M H) (s : Stp M H M' H') (h : EvR K P M H σ env) : EvR K P M' H' σ env := ⟨h.1, fun i d e => by
  obtain ⟨v, h1, h2⟩ := h.2 i d e
  exact ⟨v, h1, h2.mono m s⟩⟩
theorem EvR.set {i : Nat} {d : D} {v : V} (h : EvR K P M H σ env) (r : DV K M H d v) : EvR K P M H (σ.set i (some v)) (env.set i (some d)) := by
  refine ⟨by rw [List.length_set, List.length_set]; exact h.1, fun j d' e => ?_⟩
  by_cases hj : i = j
  · subst hj
    have hl : i < env.length := by
      have := (List.getElem?_eq_some_iff.mp e).1
      rwa [List.length_set] at this
    rw [List.getElem?_set_self hl] at e
    cases e
    exact ⟨v, List.getElem?_set_self (by rw [← h.1]; exact hl), r.x⟩
  · rw [List.getElem?_set_ne hj] at e
    rw [List.getElem?_set_ne hj]
    exact h.2 j d' e

def Post {α β : Type} (K : PySem.W.Frag) (P : Par) (M : List Addr) (H : Hp) (R : List Addr → Hp → α → β → Prop) (Wx : Value → Option Addr → Hp → Prop) (r : Res α) (Q : β → Hp → Prop) : Prop :=
  match r with
  | .ok a st' => ∀ (b : β) (M' : List Addr) (H' : Hp), Stp M H M' H' → At K P M' H' st' → R M' H' a b → Q b H'
  | .exc c d st' => ∀ (dd : Addr) (v : V) (M' : List Addr) (H' : Hp), Stp M H M' H' → At K P M' H' st' → DV K M' H' d v → H' dd = some (.xd [(P.FN c, v)]) → Wx (.ref (P.CA c)) (some dd) H'
  | .err => False
section
variable {α β γ δ : Type} {R : List Addr → Hp → α → β → Prop} {R' : List Addr → Hp → γ → δ → Prop} {Wx : Value → Option Addr → Hp → Prop} {Q Q' : β → Hp → Prop}
theorem Post.imp {r : Res α} (h : Post K P M H R Wx r Q) (k : ∀ b H', Q b H' → Q' b H') : Post K P M H R Wx r Q' := by
  cases r with
  | ok a st' => exact fun b M' H' s t q => k _ _ (h b M' H' s t q)
  | exc c d st' => exact h
  | err => exact h
theorem Post.step {r : Res α} (s : Stp M H M1 H1) (h : Post K P M H R Wx r Q) : Post K P M1 H1 R Wx r Q := by
  cases r with
  | ok a st' => exact fun b M' H' s' t q => h b M' H' (s.trans s') t q
  | exc c d st' => exact fun dd v M' H' s' t q e => h dd v M' H' (s.trans s') t q e
  | err => exact h
/-- what holds behind a first part -/
def Mid (K : PySem.W.Frag) (P : Par) (M : List Addr) (H : Hp) (R' : List Addr → Hp → γ → δ → Prop) (k : γ → Sto → List Addr → Hp → Prop) (b : δ) (H1 : Hp) : Prop :=
  ∃ (a : γ) (M1 : List Addr) (st1 : Sto), Stp M H M1 H1 ∧ At K P M1 H1 st1 ∧ R' M1 H1 a b ∧ k a st1 M1 H1
theorem Post.bind {r : Res γ} {G : γ → Sto → Res α} (h : Post K P M H R Wx (r.bind G) Q) :
    Post K P M H R' Wx r (Mid K P M H R' fun a st1 M1 H1 => Post K P M1 H1 R Wx (G a st1) Q) := by
  cases r with
  | ok a st' => exact fun b M' H' s t q => ⟨a, M', st', s, t, q, Post.step s h⟩
  | exc c d st' => exact h
  | err => exact h.elim
end

/-- results of what raises nothing -/
abbrev OD := Option (D × Sto)
def ofO : OD → Res D
  | some (d, st) => .ok d st
  | none => .err
def PostO (K : PySem.W.Frag) (P : Par) (M : List Addr) (H : Hp) (r : OD) (Q : VK) : Prop := ∃ d st', r = some (d, st') ∧ ∀ v M' H', Stp M H M' H' → At K P M' H' st' → DV K M' H' d v → Q v H'
theorem Post.toO {Wx : Value → Option Addr → Hp → Prop} {r : OD} {Q : VK} (h : Post K P M H (DV K) Wx (ofO r) Q) : PostO K P M H r Q := by
  cases r with
  | none => exact h.elim
  | some p => exact ⟨p.1, p.2, rfl, h⟩
/-- the plain ends -/
theorem PostO.same {d : D} {st : Sto} {Q : VK} {v : V} {r : OD} (h : PostO K P M H r Q) (e : r = some (d, st)) (a : At K P M H st) (q : DV K M H d v) : Q v H := by
  obtain ⟨d', st', e', k⟩ := h
  rw [e] at e'
  cases e'
  exact k v M H (Stp.refl _ _) a q
theorem TabP.ext {t : Addr} {q : Str} (h : TabP H t q) (e : ∀ b o, H b = some o → H' b = some o) : TabP H' t q := LamX.TabS.ext h e
theorem TabP.but {t : Addr} {q : Str} (h : TabP H t q) (e : ∀ b o, H b = some o → ¬ IsMut o → H' b = some o) : TabP H' t q := by
  obtain ⟨ps, h1, h2, h3⟩ := h
  refine ⟨ps, e _ _ h1 ?_, h2, fun pos cv hc => ?_⟩
  · rintro (⟨_, h⟩ | ⟨_, h⟩ | ⟨_, h⟩) <;> cases h
  obtain ⟨c, e1, e2⟩ := h3 pos cv hc
  refine ⟨c, e1, e _ _ e2 ?_⟩
  unfold LamX.CodeO
  rintro (⟨_, h⟩ | ⟨_, h⟩ | ⟨_, h⟩) <;> cases h
/-- but for the tables all stays -/
theorem At.ext (a : At K P M H st) (e : LamX.ExtN H H') (t : LamX.Tabs P.T H') : At K P M H' st := by
  have s : Stp M H M H' := Stp.ext e
  refine ⟨⟨a.rel.len, a.rel.nd, fun n ob h => ?_⟩, t, fun q hq => ?_, fun q hq => ⟨(a.sup q hq).1.trans s, (a.sup q hq).2⟩⟩
  · obtain ⟨p, h1, h2⟩ := a.rel.ob n ob h
    obtain ⟨o, h3, h4⟩ := h2.nt
    exact ⟨p, h1, h2.mono a.mok s (by rw [h3]; exact e _ _ h3 h4)⟩
  · obtain ⟨v, h1, h2⟩ := a.exn q hq
    exact ⟨v, e _ _ h1 (fun ps z => nomatch z), h2.mono a.mok s⟩
/-- what stands now is noted -/
theorem At.note (a : At K P M H st) (x : Nat → Option Addr) : At K { P with SB := (M, H) :: P.SB, xa := x } M H st := ⟨a.rel, a.tab, a.exn, fun q hq => by
  rcases List.mem_cons.mp hq with rfl | hq
  · exact ⟨Stp.refl _ _, a.mok⟩
  · exact a.sup q hq⟩
theorem At.drop {x : Nat → Option Addr} {q : List Addr × Hp} (a : At K { P with SB := q :: P.SB, xa := x } M H st) : At K P M H st := ⟨a.rel, a.tab, a.exn, fun q hq => a.sup q (List.mem_cons_of_mem _ hq)⟩
theorem At.back {x : Nat → Option Addr} {q : List Addr × Hp} (a : At K P M H st) (s : Stp q.1 q.2 M H) (m : MOk q.1 q.2) : At K { P with SB := q :: P.SB, xa := x } M H st := ⟨a.rel, a.tab, a.exn, fun r hr => by
  rcases List.mem_cons.mp hr with rfl | hr
  · exact ⟨s, m⟩
  · exact a.sup r hr⟩
theorem At.new {p : Addr} {o : HO} (a : At K P M H st) (hp : H p = .none) : At K P M (upd H p o) st :=
  ⟨a.rel.new hp, fun q hq => (a.tab q hq).ext fun b o' e => by rw [upd_ne (ne_of_none e hp)]; exact e, fun q hq => by
    obtain ⟨v, h1, h2⟩ := a.exn q hq
    exact ⟨v, by rw [upd_ne (ne_of_none h1 hp)]; exact h1, h2.mono a.mok (stp_new hp)⟩, fun q hq => ⟨(a.sup q hq).1.trans (stp_new hp), (a.sup q hq).2⟩⟩
theorem At.loc {p : Addr} {o : HO} {ob : Ob} (a : At K P M H st) (hp : H p = .none) (h : ObV K (M ++ [p]) (upd H p o) p ob) : At K P (M ++ [p]) (upd H p o) (st ++ [ob]) :=
  ⟨a.rel.loc hp h, fun q hq => (a.tab q hq).ext fun b o' e => by rw [upd_ne (ne_of_none e hp)]; exact e, fun q hq => by
    obtain ⟨v, h1, h2⟩ := a.exn q hq
    exact ⟨v, by rw [upd_ne (ne_of_none h1 hp)]; exact h1, h2.mono a.mok (stp_loc hp)⟩, fun q hq => ⟨(a.sup q hq).1.trans (stp_loc hp), (a.sup q hq).2⟩⟩
theorem At.set {p : Addr} {n : Nat} {o : HO} {ob : Ob} (a : At K P M H st) (hm : M[n]? = some p) (h : ObV K M (upd H p o) p ob) : At K P M (upd H p o) (st.set n ob) := by
  have ho : NT o := by
    obtain ⟨o1, e1, n1⟩ := h.nt
    rw [upd_same] at e1
    cases e1
    exact n1
  refine ⟨a.rel.set hm h, fun q hq => (a.tab q hq).but fun b o' e n => ?_, fun q hq => ?_, fun q hq => ⟨(a.sup q hq).1.trans (stp_set hm ho), (a.sup q hq).2⟩⟩
  · rw [upd_ne (fun z => ?_)]
    · exact e
    · obtain ⟨o2, e2, m2⟩ := a.mok p (List.mem_of_getElem? hm)
      rw [z, e2] at e
      cases e
      exact n m2
  · obtain ⟨v, h1, h2⟩ := a.exn q hq
    refine ⟨v, ?_, h2.mono a.mok (stp_set hm ho)⟩
    rw [upd_ne (fun z => ?_)]
    · exact h1
    · obtain ⟨o2, e2, m2⟩ := a.mok p (List.mem_of_getElem? hm)
      rw [z, e2] at h1
      cases h1
      rcases m2 with ⟨_, m2⟩ | ⟨_, m2⟩ | ⟨_, m2⟩ <;> cases m2
theorem PostO.tup {ds : List D} {vs : List V} {st : Sto} {Q : VK} {p : Addr} {r : OD} (h : PostO K P M H r Q) (e : r = some (.tup ds, st)) (a : At K P M H st) (q : DVs K M H ds vs) (hp : H p = .none) : Q (.ref p) (upd H p (.tup vs)) := by
  obtain ⟨d', st', e', k⟩ := h
  rw [e] at e'
  cases e'
  refine k _ M _ (stp_new hp) (a.new hp) ?_
  unfold DV
  exact ⟨p, vs, rfl, SqT.of upd_same, q.mono a.mok (stp_new hp)⟩
theorem PostO.lst {ds : List D} {vs : List V} {st : Sto} {Q : VK} {p : Addr} {r : OD} (h : PostO K P M H r Q) (e : r = some (.loc st.length, st ++ [.lst ds])) (a : At K P M H st) (q : DVs K M H ds vs) (hp : H p = .none) : Q (.ref p) (upd H p (.lst vs)) := by
  obtain ⟨d', st', e', k⟩ := h
  rw [e] at e'
  cases e'
  have s : Stp M H (M ++ [p]) (upd H p (.lst vs)) := stp_loc hp
  refine k _ (M ++ [p]) _ s (a.loc hp ⟨vs, upd_same, q.mono a.mok s⟩) ?_
  unfold DV
  exact ⟨p, rfl, by rw [← a.rel.len, List.getElem?_append_right (Nat.le_refl _), Nat.sub_self]; rfl⟩
end

/-! ### readings -/
def tG {α β : Type} (K : PySem.W.Frag) (P : Par) (W : WX) (R : List Addr → Hp → α → β → Prop) (F : Ev → Sto → Res α) : L2.St → Hp → (β → Hp → Prop) → Prop :=
  fun σ H Q => ∃ (M : List Addr) (env : Ev) (st : Sto), EvR K P M H σ env ∧ At K P M H st ∧ Post K P M H R (fun c d H' => W c d σ H') (F env st) Q
abbrev tE (K : PySem.W.Frag) (P : Par) (W : WX) (F : Ev → Sto → Res D) : TE := tG K P W (DV K) F
abbrev tL (K : PySem.W.Frag) (P : Par) (W : WX) (F : Ev → Sto → Res (List D)) : TA := tG K P W (DVs K) F
abbrev tT (K : PySem.W.Frag) (P : Par) (W : WX) (F : Ev → Sto → Res Bool) : TT := tG K P W (fun _ _ (a b : Bool) => a = b) F

/-- a step of a reading -/
theorem tG.go {α β γ δ : Type} {K : PySem.W.Frag} {P : Par} {W : WX} {R : List Addr → Hp → α → β → Prop} {R' : List Addr → Hp → γ → δ → Prop} {F : Ev → Sto → Res γ} {G : γ → Sto → Res α} {M : List Addr} {env : Ev} {st : Sto} {σ : L2.St} {H : Hp} {Q : β → Hp → Prop}
    {Q' : δ → Hp → Prop} (sl : EvR K P M H σ env) (a : At K P M H st) (h : Post K P M H R (fun c d H' => W c d σ H') ((F env st).bind G) Q)
    (k : ∀ b H1 d M1 st1, Stp M H M1 H1 → At K P M1 H1 st1 → EvR K P M1 H1 σ env → R' M1 H1 d b → Post K P M1 H1 R (fun c d H' => W c d σ H') (G d st1) Q → Q' b H1) : tG K P W R' F σ H Q' :=
  ⟨M, env, st, sl, a, (Post.bind h).imp fun b H1 ⟨d, M1, st1, s1, a1, r1, p1⟩ => k b H1 d M1 st1 s1 a1 (sl.mono a.mok s1) r1 p1⟩
theorem tG.last {α β : Type} {K : PySem.W.Frag} {P : Par} {W : WX} {R : List Addr → Hp → α → β → Prop} {F : Ev → Sto → Res α} {M : List Addr} {env : Ev} {st : Sto} {σ : L2.St} {H : Hp} {Q : β → Hp → Prop}
    (sl : EvR K P M H σ env) (a : At K P M H st) (h : Post K P M H R (fun c d H' => W c d σ H') (F env st) Q) : tG K P W R F σ H Q := ⟨M, env, st, sl, a, h⟩

/-! ### values by one, two, many -/
def rD2 (K : PySem.W.Frag) (P : Par) (g : D → D → Sto → OD) : R2 := fun x y H Q => ∃ M st dx dy, At K P M H st ∧ DV K M H dx x ∧ DV K M H dy y ∧ PostO K P M H (g dx dy st) Q
def rD1 (K : PySem.W.Frag) (P : Par) (g : D → Sto → OD) : V → Hp → VK → Prop := fun x H Q => ∃ M st dx, At K P M H st ∧ DV K M H dx x ∧ PostO K P M H (g dx st) Q
def rDL (K : PySem.W.Frag) (P : Par) (g : List D → Sto → OD) : List V → Hp → VK → Prop := fun xs H Q => ∃ M st ds, At K P M H st ∧ DVs K M H ds xs ∧ PostO K P M H (g ds st) Q
def rDM (K : PySem.W.Frag) (P : Par) (g : D → List D → Sto → OD) : V → List V → Hp → VK → Prop := fun x xs H Q => ∃ M st d ds, At K P M H st ∧ DV K M H d x ∧ DVs K M H ds xs ∧ PostO K P M H (g d ds st) Q

section
variable {X : Cx} {P : Par} {W : WX} {a b c : Expr} {Fa Fb Fc : Ev → Sto → Res D} {pos : Pos}
def vGet (i : Nat) (env : Ev) (st : Sto) : Res D := match env[i]? with
  | some (some (.exo _)) => .err
  | some (some d) => .ok d st
  | _ => .err
theorem q_var {i : Nat} {x : Str} {pos : Pos} (hN : X.N[i]? = some x) (hv : Vis X.env.scope x) (hd : (x == ("__debug__" : Str)) = false) (hcd : (x == ("__classdict__" : Str)) = false) :
    PE X (.Name x pos) (tE X.K P W (vGet i)) := by
  refine ⟨fun pins s σ H Q I h => (pe_var hN hv hd hcd).run pins s σ H Q I ?_⟩
  obtain ⟨M, env, st, sl, at_, p⟩ := h
  show ∃ v, _ ∧ _
  unfold vGet at p
  split at p
  · exact p.elim
  · rename_i d e n
    obtain ⟨v, h1, h2⟩ := sl.2 i d n
    refine ⟨v, h1, p v M H (Stp.refl _ _) at_ ?_⟩
    unfold DVx at h2
    split at h2
    · exact (e _ rfl).elim
    · exact h2
  · exact p.elim
theorem q_const {e : Expr} {d : D} {v : V} (h : PE X e (tC v)) (hd : ∀ M H, DV X.K M H d v) : PE X e (tE X.K P W fun _ st => .ok d st) := by
  refine ⟨fun pins s σ H Q I hh => h.run pins s σ H Q I ?_⟩
  obtain ⟨M, env, st, sl, at_, p⟩ := hh
  exact p v M H (Stp.refl _ _) at_ (hd M H)
theorem q_op2 {f : Expr} {g : D → D → Sto → OD} (ho : ∀ {ta tb : TE}, PE X a ta → PE X b tb → PE X f (tOp (rD2 X.K P g) ta tb)) (ha : PE X a (tE X.K P W Fa)) (hb : PE X b (tE X.K P W Fb)) :
    PE X f (tE X.K P W fun env st => (Fa env st).bind fun x s1 => (Fb env s1).bind fun y s2 => ofO (g x y s2)) := by
  refine ⟨fun pins s σ H Q I h => (ho ha hb).run pins s σ H Q I ?_⟩
  obtain ⟨M, env, st, sl, at_, p⟩ := h
  exact tG.go sl at_ p fun x H1 dx M1 st1 s1 a1 sl1 r1 p1 => tG.go sl1 a1 p1 fun y H2 dy M2 st2 s2 a2 sl2 r2 p2 => ⟨M2, st2, dx, dy, a2, r1.mono a1.mok s2, r2, p2.toO⟩
theorem q_bin {op : Operator} {g : D → D → Sto → OD} (ho : OpR X (binaryOp op) (rD2 X.K P g)) (ha : PE X a (tE X.K P W Fa)) (hb : PE X b (tE X.K P W Fb)) :
    PE X (.BinOp a op b pos) (tE X.K P W fun env st => (Fa env st).bind fun x s1 => (Fb env s1).bind fun y s2 => ofO (g x y s2)) := q_op2 (fun ha hb => pe_op ho ha hb) ha hb
theorem q_cmp {op : CmpOp} {g : D → D → Sto → OD} (ho : OpR X (compareOp op) (rD2 X.K P g)) (ha : PE X a (tE X.K P W Fa)) (hb : PE X b (tE X.K P W Fb)) (hm : behindInMarks op b = false) :
    PE X (.Compare a [op] [b] pos) (tE X.K P W fun env st => (Fa env st).bind fun x s1 => (Fb env s1).bind fun y s2 => ofO (g x y s2)) := q_op2 (fun ha hb => pe_cmpR ho ha hb hm) ha hb
theorem q_ix {g : D → D → Sto → OD} (ho : IxR X (rD2 X.K P g)) (ha : PE X a (tE X.K P W Fa)) (hb : PE X b (tE X.K P W Fb)) (hs : PlainIx b) :
    PE X (.Subscript a b pos) (tE X.K P W fun env st => (Fa env st).bind fun x s1 => (Fb env s1).bind fun y s2 => ofO (g x y s2)) := q_op2 (fun ha hb => pe_ix ho ha hb hs) ha hb
theorem q_un {op : UnaryOp} {g : D → Sto → OD} (ho : UnR X (unaryOp op) (rD1 X.K P g)) (ha : PE X a (tE X.K P W Fa)) :
    PE X (.UnaryOp op a pos) (tE X.K P W fun env st => (Fa env st).bind fun x s1 => ofO (g x s1)) := by
  refine ⟨fun pins s σ H Q I h => (pe_un ho ha).run pins s σ H Q I ?_⟩
  obtain ⟨M, env, st, sl, at_, p⟩ := h
  exact tG.go sl at_ p fun x H1 dx M1 st1 s1 a1 sl1 r1 p1 => ⟨M1, st1, dx, a1, r1, p1.toO⟩
/-! argument lists -/
theorem q_nil : PA X [] (tL X.K P W fun _ st => .ok [] st) := by
  refine ⟨fun pos pins s σ H Q I h => pa_nil.run pos pins s σ H Q I ?_⟩
  obtain ⟨M, env, st, sl, at_, p⟩ := h
  exact p [] M H (Stp.refl _ _) at_ dvs_nil
theorem q_cons {e : Expr} {es : List Expr} {F : Ev → Sto → Res D} {G : Ev → Sto → Res (List D)} (ha : PE X e (tE X.K P W F)) (hr : PA X es (tL X.K P W G)) (hs : starEach (e :: es) X.env = (false, eval e X.env) :: starEach es X.env) :
    PA X (e :: es) (tL X.K P W fun env st => (F env st).bind fun d s1 => (G env s1).bind fun ds s2 => .ok (d :: ds) s2) := by
  refine ⟨fun pos pins s σ H Q I h => (pa_cons ha hr hs).run pos pins s σ H Q I ?_⟩
  obtain ⟨M, env, st, sl, at_, p⟩ := h
  refine tG.go sl at_ p fun x H1 dx M1 st1 s1 a1 sl1 r1 p1 => tG.go sl1 a1 p1 fun xs H2 ds M2 st2 s2 a2 sl2 r2 p2 => ?_
  exact p2 (x :: xs) M2 H2 (Stp.refl _ _) a2 (dvs_cons (r1.mono a1.mok s2) r2)
section
variable {es : List Expr} {G : Ev → Sto → Res (List D)}
def mkTup (ds : List D) (st : Sto) : OD := if ds.length ≤ 100000 then some (.tup ds, st) else none
def mkLst (ds : List D) (st : Sto) : OD := if ds.length ≤ 100000 then some (.loc st.length, st ++ [.lst ds]) else none
theorem le_line {n : Nat} (h : n ≤ 100000) : n ≤ sizeLine := by rw [sizeLine_eq]; omega
theorem q_tup {k : Nat} (h : PA X es (tL X.K P W G)) : PE X (.Tuple es k pos) (tE X.K P W fun env st => (G env st).bind fun ds s1 => ofO (mkTup ds s1)) := by
  refine ⟨fun pins s σ H Q I hh => (pe_tup h).run pins s σ H Q I ?_⟩
  obtain ⟨M, env, st, sl, at_, p⟩ := hh
  refine tG.go sl at_ p fun xs H1 ds M1 st1 s1 a1 sl1 r1 p1 => ?_
  have p1 := p1.toO
  unfold mkTup at p1
  split at p1
  · rename_i hl
    exact ⟨by rw [← r1.length]; exact le_line hl, fun q hq => p1.tup rfl a1 r1 hq⟩
  · obtain ⟨_, _, e, _⟩ := p1; cases e
theorem q_lst (h : PA X es (tL X.K P W G)) : PE X (.List es pos) (tE X.K P W fun env st => (G env st).bind fun ds s1 => ofO (mkLst ds s1)) := by
  refine ⟨fun pins s σ H Q I hh => (pe_lst h).run pins s σ H Q I ?_⟩
  obtain ⟨M, env, st, sl, at_, p⟩ := hh
  refine tG.go sl at_ p fun xs H1 ds M1 st1 s1 a1 sl1 r1 p1 => ?_
  have p1 := p1.toO
  unfold mkLst at p1
  split at p1
  · rename_i hl
    exact ⟨by rw [← r1.length]; exact le_line hl, fun q hq => p1.lst rfl a1 r1 hq⟩
  · obtain ⟨_, _, e, _⟩ := p1; cases e
/-- a builtin called by its name -/
theorem q_blt {e : Expr} {x : Str} {id : String} {f : List D → Sto → OD} {p : Pos} {G : Ev → Sto → Res (List D)} (hc : CallR X (.builtin id) (rDL X.K P f)) (hg : Gl X x) (hm : X.mg x = none) (hv : bootBuiltins x = some (.builtin id)) (ha : PA X (e :: es) (tL X.K P W G)) (hn : x ≠ "__name__") (hdb : (x == ("__debug__" : Str)) = false)
    (he : starEach (e :: es) X.env = (false, eval e X.env) :: starEach es X.env) (hpl : (backTo pos (starEach es X.env)).any (·.1) = false) :
    PE X (.Call (.Name x p) (e :: es) [] pos) (tE X.K P W fun env st => (G env st).bind fun ds s1 => ofO (f ds s1)) := by
  refine ⟨fun pins s σ H Q I hh => (pe_callB hc hg hm hv ha hn hdb he hpl).run pins s σ H Q I ?_⟩
  obtain ⟨M, env, st, sl, at_, q⟩ := hh
  exact tG.go sl at_ q fun xs H1 ds M1 st1 s1 a1 sl1 r1 p1 => ⟨M1, st1, ds, a1, r1, p1.toO⟩
theorem q_bty {e : Expr} {x : Str} {T : String} {f : List D → Sto → OD} {p : Pos} {G : Ev → Sto → Res (List D)} (hc : CallR X (.type T) (rDL X.K P f)) (hg : Gl X x) (hm : X.mg x = none) (hv : bootBuiltins x = some (.type T)) (ha : PA X (e :: es) (tL X.K P W G)) (hn : x ≠ "__name__") (hdb : (x == ("__debug__" : Str)) = false)
    (he : starEach (e :: es) X.env = (false, eval e X.env) :: starEach es X.env) (hpl : (backTo pos (starEach es X.env)).any (·.1) = false) :
    PE X (.Call (.Name x p) (e :: es) [] pos) (tE X.K P W fun env st => (G env st).bind fun ds s1 => ofO (f ds s1)) := by
  refine ⟨fun pins s σ H Q I hh => (pe_callTy hc hg hm hv ha hn hdb he hpl).run pins s σ H Q I ?_⟩
  obtain ⟨M, env, st, sl, at_, q⟩ := hh
  exact tG.go sl at_ q fun xs H1 ds M1 st1 s1 a1 sl1 r1 p1 => ⟨M1, st1, ds, a1, r1, p1.toO⟩
end
end
end Q
end

section
set_option Elab.async false
set_option linter.all false
set_option maxRecDepth 100000
set_option maxHeartbeats 1000000
set_option autoImplicit false
/-! Operators and builtin functions, by data. -/
namespace Q
open PySem PySem.Spec PyProof.Rows L2

section
variable {K : PySem.W.Frag} {P : Par} {M : List Addr} {H : Hp} {st : Sto}
theorem dv_int {i : Int} {v : V} : DV K M H (.int i) v ↔ v = .int i := by unfold DV; exact Iff.rfl
theorem dv_bl {b : Bool} {v : V} : DV K M H (.bl b) v ↔ v = .bl b := by unfold DV; exact Iff.rfl
theorem dv_str {x : Str} {v : V} : DV K M H (.str x) v ↔ v = .str x := by unfold DV; exact Iff.rfl
theorem dv_non {v : V} : DV K M H .non v ↔ v = .non := by unfold DV; exact Iff.rfl
theorem dv_tup {ds : List D} {v : V} : DV K M H (.tup ds) v ↔ ∃ a vs, v = .ref a ∧ SqT K H a vs ∧ DVs K M H ds vs := by unfold DV; exact Iff.rfl
theorem dv_fz {ds : List D} {v : V} : DV K M H (.fz ds) v ↔ ∃ a vs, v = .ref a ∧ SqF K H a vs ∧ DVs K M H ds vs := by unfold DV; exact Iff.rfl
theorem dv_loc {n : Nat} {v : V} : DV K M H (.loc n) v ↔ ∃ a, v = .ref a ∧ M[n]? = some a := by unfold DV; exact Iff.rfl
theorem At.lst (a : At K P M H st) {n : Nat} {ds : List D} (h : st[n]? = some (.lst ds)) : ∃ p vs, M[n]? = some p ∧ H p = some (.lst vs) ∧ DVs K M H ds vs := by
  obtain ⟨p, h1, vs, h2, h3⟩ := a.rel.ob n _ h
  exact ⟨p, vs, h1, h2, h3⟩
theorem At.dK (a : At K P M H st) {n : Nat} {ds : List (Key × D)} (h : st[n]? = some (.dK ds)) : ∃ p vs, M[n]? = some p ∧ H p = some (.dK vs) ∧ DKs K M H ds vs := by
  obtain ⟨p, h1, vs, h2, h3⟩ := a.rel.ob n _ h
  exact ⟨p, vs, h1, h2, h3⟩
theorem PostO.not {Q : VK} (h : PostO K P M H none Q) : False := by obtain ⟨_, _, e, _⟩ := h; cases e
theorem PostO.pure {Q : VK} {d : D} {v : V} (h : PostO K P M H (some (d, st)) Q) (a : At K P M H st) (q : DV K M H d v) : Q v H := h.same rfl a q
theorem PostO.int {Q : VK} {i : Int} (h : PostO K P M H (some (.int i, st)) Q) (a : At K P M H st) : Q (.int i) H := h.same rfl a (dv_int.mpr rfl)
theorem PostO.bl {Q : VK} {i : Bool} (h : PostO K P M H (some (.bl i, st)) Q) (a : At K P M H st) : Q (.bl i) H := h.same rfl a (dv_bl.mpr rfl)
theorem PostO.str {Q : VK} {i : Str} (h : PostO K P M H (some (.str i, st)) Q) (a : At K P M H st) : Q (.str i) H := h.same rfl a (dv_str.mpr rfl)

/-! ### int operators -/
/-- the numbers that stand behind an int operator -/
def int2 (f : Int → Int → Option Int) : D → D → Sto → OD
  | .int i, .int j, st => (f i j).map fun k => (.int k, st)
  | _, _, _ => none
def int2b (f : Int → Int → Bool) : D → D → Sto → OD
  | .int i, .int j, st => some (.bl (f i j), st)
  | _, _, _ => none
section
variable {X : Cx} {P : Par}
theorem int2_ok {f : Value → Value → Sem Value} {C : Int → Int → Prop} {g : Int → Int → Int} {h : Int → Int → Option Int} (o : OpR X f (rI C fun i j => .int (g i j))) (hc : ∀ i j k, h i j = some k → C i j ∧ k = g i j) : OpR X f (rD2 X.K P (int2 h)) := by
  intro pins s σ H x y v u Q I rx ry q
  obtain ⟨M, st, dx, dy, a, r1, r2, p⟩ := q
  unfold int2 at p
  split at p
  · rename_i i j
    rw [dv_int] at r1 r2
    cases e : h i j with
    | none => rw [e] at p; exact p.not.elim
    | some k =>
      rw [e] at p
      obtain ⟨c, rfl⟩ := hc i j k e
      exact o pins s σ H x y v u Q I rx ry ⟨i, j, r1, r2, c, p.int a⟩
  · exact p.not.elim
theorem int20_ok {f : Value → Value → Sem Value} {g : Int → Int → Int} (o : OpR X f (rI0 fun i j => .int (g i j))) : OpR X f (rD2 X.K P (int2 fun i j => some (g i j))) := by
  intro pins s σ H x y v u Q I rx ry q
  obtain ⟨M, st, dx, dy, a, r1, r2, p⟩ := q
  unfold int2 at p
  split at p
  · rename_i i j
    rw [dv_int] at r1 r2
    exact o pins s σ H x y v u Q I rx ry ⟨i, j, r1, r2, p.int a⟩
  · exact p.not.elim
theorem int2b_ok {f : Value → Value → Sem Value} {g : Int → Int → Bool} (o : OpR X f (rI0 fun i j => .bl (g i j))) : OpR X f (rD2 X.K P (int2b g)) := by
  intro pins s σ H x y v u Q I rx ry q
  obtain ⟨M, st, dx, dy, a, r1, r2, p⟩ := q
  unfold int2b at p
  split at p
  · rename_i i j
    rw [dv_int] at r1 r2
    exact o pins s σ H x y v u Q I rx ry ⟨i, j, r1, r2, p.bl a⟩
  · exact p.not.elim
/-- one or the other -/
def alt2 (f g : D → D → Sto → OD) : D → D → Sto → OD := fun x y st => match f x y st with
  | some r => some r
  | none => g x y st
theorem alt2_ok {f : Value → Value → Sem Value} {g h : D → D → Sto → OD} (o1 : OpR X f (rD2 X.K P g)) (o2 : OpR X f (rD2 X.K P h)) : OpR X f (rD2 X.K P (alt2 g h)) := by
  intro pins s σ H x y v u Q I rx ry q
  obtain ⟨M, st, dx, dy, a, r1, r2, p⟩ := q
  unfold alt2 at p
  cases e : g dx dy st with
  | none => rw [e] at p; exact o2 pins s σ H x y v u Q I rx ry ⟨M, st, dx, dy, a, r1, r2, p⟩
  | some r => rw [e] at p; exact o1 pins s σ H x y v u Q I rx ry ⟨M, st, dx, dy, a, r1, r2, by rw [e]; exact p⟩
def bits (i : Int) : Nat := i.natAbs.log2
def mulI (i j : Int) : Option Int := if bits i + bits j < 1000000 then some (i * j) else none
def fdivI (i j : Int) : Option Int := if j ≠ 0 ∧ j.natAbs < 1073741824 then some (i.fdiv j) else if 0 < j ∧ bits j < 9000 then some (i.fdiv j) else none
def modI (i j : Int) : Option Int := if j ≠ 0 then some (i.fmod j) else none
def powI (i j : Int) : Option Int := if 0 ≤ j ∧ j ≤ 1000000 ∧ i.natAbs < 18446744073709551616 then some (i ^ j.toNat) else none
def shlI (i j : Int) : Option Int := if 0 ≤ j ∧ j ≤ 1000000 ∧ bits i < 1000000 then some (i * 2 ^ j.toNat) else none
def shrI (i j : Int) : Option Int := if 0 ≤ j then some (i / 2 ^ j.toNat) else none
theorem mul_ok : OpR X (binaryOp .Mult) (rD2 X.K P (int2 mulI)) := int2_ok op_mulW fun i j k h => by
  unfold mulI at h
  split at h
  · exact ⟨by assumption, (Option.some.inj h).symm⟩
  · cases h
theorem or_fdiv : OpR X (binaryOp .FloorDiv) (rI (fun i j => CDivN i j ∨ CDivW i j) fun i j => .int (i.fdiv j)) := by
  intro pins s σ H x y v u Q I rx ry q
  obtain ⟨i, j, e1, e2, c, q⟩ := q
  rcases c with c | c
  · exact op_fdivN pins s σ H x y v u Q I rx ry ⟨i, j, e1, e2, c, q⟩
  · refine op_fdivW pins s σ H x y v u Q I rx ry ⟨i, j, e1, e2, c, ?_⟩
    show Q (V.int (i / j)) H
    rw [← Int.fdiv_eq_ediv_of_nonneg _ (Int.le_of_lt c.1)]
    exact q
theorem fdiv_ok : OpR X (binaryOp .FloorDiv) (rD2 X.K P (int2 fdivI)) := int2_ok or_fdiv fun i j k h => by
  unfold fdivI at h
  split at h
  · exact ⟨.inl (by assumption), (Option.some.inj h).symm⟩
  · split at h
    · exact ⟨.inr (by assumption), (Option.some.inj h).symm⟩
    · cases h
theorem mod_ok : OpR X (binaryOp .Mod) (rD2 X.K P (int2 modI)) := int2_ok op_modN fun i j k h => by
  unfold modI at h
  split at h
  · exact ⟨by assumption, (Option.some.inj h).symm⟩
  · cases h
theorem pow_ok : OpR X (binaryOp .Pow) (rD2 X.K P (int2 powI)) := int2_ok op_pow fun i j k h => by
  unfold powI at h
  split at h
  · exact ⟨by assumption, (Option.some.inj h).symm⟩
  · cases h
theorem shl_ok' : OpR X (binaryOp .LShift) (rD2 X.K P (int2 shlI)) := int2_ok op_shlW fun i j k h => by
  unfold shlI at h
  split at h
  · rename_i c
    refine ⟨?_, (Option.some.inj h).symm⟩
    obtain ⟨c1, c2, c3⟩ := c
    have h2 : i.natAbs < 2 ^ 1000000 := by
      by_cases h0 : i.natAbs = 0
      · rw [h0]; exact Nat.two_pow_pos _
      · exact (Nat.log2_lt h0).mp c3
    have := shl_ok (i := i) (j := j.toNat) h2 (by omega)
    rwa [Int.toNat_of_nonneg c1] at this
  · cases h
theorem shr_ok : OpR X (binaryOp .RShift) (rD2 X.K P (int2 shrI)) := int2_ok op_shr fun i j k h => by
  unfold shrI at h
  split at h
  · exact ⟨by assumption, (Option.some.inj h).symm⟩
  · cases h

/-! ### texts, tuples, lists -/
def addS : D → D → Sto → OD
  | .str x, .str y, st => if x.length + y.length ≤ 16000000 then some (.str (x ++ y), st) else none
  | _, _, _ => none
theorem addS_ok : OpR X (binaryOp .Add) (rD2 X.K P addS) := by
  intro pins s σ H x y v u Q I rx ry q
  obtain ⟨M, st, dx, dy, a, r1, r2, p⟩ := q
  unfold addS at p
  split at p
  · rename_i i j
    rw [dv_str] at r1 r2
    split at p
    · exact op_add_str pins s σ H x y v u Q I rx ry ⟨i, j, r1, r2, by rw [sizeLine_eq]; omega, p.str a⟩
    · exact p.not.elim
  · exact p.not.elim
def addT : D → D → Sto → OD
  | .tup xs, .tup ys, st => if xs.length + ys.length ≤ 100000 then some (.tup (xs ++ ys), st) else none
  | _, _, _ => none
theorem addT_ok : OpR X (binaryOp .Add) (rD2 X.K P addT) := by
  intro pins s σ H x y v u Q I rx ry q
  obtain ⟨M, st, dx, dy, a, r1, r2, p⟩ := q
  unfold addT at p
  split at p
  · rename_i xs ys
    split at p
    · rename_i hl
      obtain ⟨t1, vs, rfl, h1, g1⟩ := dv_tup.mp r1
      obtain ⟨t2, ws, rfl, h2, g2⟩ := dv_tup.mp r2
      refine op_catA pins s σ H _ _ v u Q I rx ry ⟨t1, t2, vs, ws, rfl, rfl, h1, h2, by rw [← g1.length, ← g2.length]; exact le_line hl, fun e => ?_, fun _ e => ?_, fun _ _ p' hp => p.tup rfl a (g1.append g2) hp⟩
      · subst e
        have : xs = [] := List.eq_nil_of_length_eq_zero g1.length
        subst this
        exact p.pure a r2
      · subst e
        have : ys = [] := List.eq_nil_of_length_eq_zero g2.length
        subst this
        rw [List.append_nil] at p
        exact p.pure a r1
    · exact p.not.elim
  · exact p.not.elim
def addL : D → D → Sto → OD
  | .loc n, .loc m, st => match st[n]?, st[m]? with
    | some (.lst xs), some (.lst ys) => if xs.length + ys.length ≤ 100000 then some (.loc st.length, st ++ [.lst (xs ++ ys)]) else none
    | _, _ => none
  | _, _, _ => none
theorem addL_ok : OpR X (binaryOp .Add) (rD2 X.K P addL) := by
  intro pins s σ H x y v u Q I rx ry q
  obtain ⟨M, st, dx, dy, a, r1, r2, p⟩ := q
  unfold addL at p
  split at p
  · rename_i n m
    split at p
    · rename_i xs ys e1 e2
      split at p
      · rename_i hl
        obtain ⟨t1, rfl, h1⟩ := dv_loc.mp r1
        obtain ⟨t2, rfl, h2⟩ := dv_loc.mp r2
        obtain ⟨q1, vs, k1, k2, g1⟩ := a.lst e1
        obtain ⟨q2, ws, k3, k4, g2⟩ := a.lst e2
        rw [h1] at k1; cases k1
        rw [h2] at k3; cases k3
        exact op_cat pins s σ H _ _ v u Q I rx ry ⟨t1, t2, vs, ws, rfl, rfl, k2, k4, by rw [← g1.length, ← g2.length]; exact le_line hl, fun p' hp => p.lst rfl a (g1.append g2) hp⟩
      · exact p.not.elim
    · exact p.not.elim
  · exact p.not.elim
def addD : D → D → Sto → OD := alt2 (int2 fun i j => some (i + j)) (alt2 addS (alt2 addT addL))
theorem add_ok : OpR X (binaryOp .Add) (rD2 X.K P addD) := alt2_ok (int20_ok op_add) (alt2_ok addS_ok (alt2_ok addT_ok addL_ok))
def subD : D → D → Sto → OD := int2 fun i j => some (i - j)
theorem sub_ok : OpR X (binaryOp .Sub) (rD2 X.K P subD) := int20_ok op_sub
def repT : D → D → Sto → OD
  | .tup xs, .int k, st => if xs ≠ [] ∧ 2 ≤ k ∧ k ≤ 1000 ∧ xs.length ≤ 1000 then some (.tup (List.replicate k.toNat xs).flatten, st) else none
  | _, _, _ => none
theorem DVs.rep {K : PySem.W.Frag} {M : List Addr} {H : Hp} {ds : List D} {vs : List V} (h : DVs K M H ds vs) : ∀ k : Nat, DVs K M H (List.replicate k ds).flatten (List.replicate k vs).flatten
  | 0 => dvs_nil
  | k + 1 => by
    rw [List.replicate_succ, List.replicate_succ, List.flatten_cons, List.flatten_cons]
    exact h.append (DVs.rep h k)
theorem repT_ok : OpR X (binaryOp .Mult) (rD2 X.K P repT) := by
  intro pins s σ H x y v u Q I rx ry q
  obtain ⟨M, st, dx, dy, a, r1, r2, p⟩ := q
  unfold repT at p
  split at p
  · rename_i xs k
    rw [dv_int] at r2
    obtain ⟨t1, vs, rfl, h1, g1⟩ := dv_tup.mp r1
    split at p
    · rename_i hl
      obtain ⟨c1, c2, c3, c4⟩ := hl
      refine op_repT pins s σ H _ y v u Q I rx ry ⟨t1, k, vs, rfl, r2, h1, fun e => c1 ?_, c2, c3, by rw [← g1.length]; exact c4, fun p' hp => p.tup rfl a (g1.rep _) hp⟩
      subst e
      exact List.eq_nil_of_length_eq_zero g1.length
    · exact p.not.elim
  · exact p.not.elim
def repL : D → D → Sto → OD
  | .loc n, .int k, st => match st[n]? with
    | some (.lst xs) => if -1000000 ≤ k ∧ k ≤ 1000000 ∧ xs.length * k.toNat ≤ 100000 then some (.loc st.length, st ++ [.lst (List.replicate k.toNat xs).flatten]) else none
    | _ => none
  | _, _, _ => none
theorem repL_ok : OpR X (binaryOp .Mult) (rD2 X.K P repL) := by
  intro pins s σ H x y v u Q I rx ry q
  obtain ⟨M, st, dx, dy, a, r1, r2, p⟩ := q
  unfold repL at p
  split at p
  · rename_i n k
    rw [dv_int] at r2
    split at p
    · rename_i xs e1
      split at p
      · rename_i hl
        obtain ⟨c1, c2, c3⟩ := hl
        obtain ⟨t1, rfl, h1⟩ := dv_loc.mp r1
        obtain ⟨q1, vs, k1, k2, g1⟩ := a.lst e1
        rw [h1] at k1; cases k1
        exact op_rep pins s σ H _ y v u Q I rx ry ⟨t1, k, vs, rfl, r2, k2, by omega, by omega, by rw [← g1.length]; exact le_line c3, fun p' hp => p.lst rfl a (g1.rep _) hp⟩
      · exact p.not.elim
    · exact p.not.elim
  · exact p.not.elim
def mulD : D → D → Sto → OD := alt2 (int2 mulI) (alt2 repT repL)
theorem mulD_ok : OpR X (binaryOp .Mult) (rD2 X.K P mulD) := alt2_ok mul_ok (alt2_ok repT_ok repL_ok)

/-! ### comparisons -/
/-! ### == -/
def eqS : D → D → Sto → OD
  | .int a, .int b, st => some (.bl (decide (a = b)), st)
  | .str a, .str b, st => some (.bl (decide (a = b)), st)
  | .bl a, .bl b, st => some (.bl (decide (a = b)), st)
  | .non, .non, st => some (.bl true, st)
  | .non, .int _, st => some (.bl false, st)
  | .int _, .non, st => some (.bl false, st)
  | .non, .str _, st => some (.bl false, st)
  | .str _, .non, st => some (.bl false, st)
  | .non, .bl _, st => some (.bl false, st)
  | .bl _, .non, st => some (.bl false, st)
  | .int _, .str _, st => some (.bl false, st)
  | .str _, .int _, st => some (.bl false, st)
  | .bl _, .str _, st => some (.bl false, st)
  | .str _, .bl _, st => some (.bl false, st)
  | _, _, _ => none
/-- what scalars are as values -/
def scV : D → Option V
  | .non => some .non | .bl b => some (.bl b) | .int i => some (.int i) | .str x => some (.str x) | _ => none
theorem scV_of {K : PySem.W.Frag} {M : List Addr} {H : Hp} {d : D} {v w : V} (h : DV K M H d v) (e : scV d = some w) : v = w := by
  cases d <;> simp only [scV, Option.some.injEq, reduceCtorEq] at e <;> subst e
  · exact dv_non.mp h
  · exact dv_bl.mp h
  · exact dv_int.mp h
  · exact dv_str.mp h
theorem eqS_sc {a b : D} {st : Sto} {r : D × Sto} (h : eqS a b st = some r) : ∃ v w, scV a = some v ∧ scV b = some w ∧ scal v w = true ∧ r = (.bl (decide (v = w)), st) := by
  cases a <;> cases b <;> simp only [eqS, Option.some.injEq, reduceCtorEq] at h <;> subst h <;> refine ⟨_, _, rfl, rfl, rfl, ?_⟩ <;> simp
theorem eqS_ok : OpR X (compareOp .Eq) (rD2 X.K P eqS) := by
  intro pins s σ H x y v u Q I rx ry q
  obtain ⟨M, st, dx, dy, a, r1, r2, p⟩ := q
  cases e : eqS dx dy st with
  | none => rw [e] at p; exact p.not.elim
  | some r =>
    rw [e] at p
    obtain ⟨x', y', h1, h2, h3, rfl⟩ := eqS_sc e
    have e1 := scV_of r1 h1
    have e2 := scV_of r2 h2
    subst e1 e2
    exact op_eq pins s σ H _ _ v u Q I rx ry ⟨h3, p.bl a⟩
def negB (f : D → D → Sto → OD) : D → D → Sto → OD := fun x y st => match f x y st with
  | some (.bl b, st') => some (.bl (!b), st')
  | _ => none
theorem neS_ok : OpR X (compareOp .NotEq) (rD2 X.K P (negB eqS)) := by
  intro pins s σ H x y v u Q I rx ry q
  obtain ⟨M, st, dx, dy, a, r1, r2, p⟩ := q
  unfold negB at p
  cases e : eqS dx dy st with
  | none => rw [e] at p; exact p.not.elim
  | some r =>
    rw [e] at p
    obtain ⟨x', y', h1, h2, h3, rfl⟩ := eqS_sc e
    have e1 := scV_of r1 h1
    have e2 := scV_of r2 h2
    subst e1 e2
    exact op_ne pins s σ H _ _ v u Q I rx ry ⟨h3, p.bl a⟩
/-- all or none -/
def mapO {α β : Type} (f : α → Option β) : List α → Option (List β)
  | [] => some []
  | x :: xs => match f x, mapO f xs with
    | some y, some ys => some (y :: ys)
    | _, _ => none
def keyP : Key → PyData
  | .inl i => .int i | .inr x => .str x
/-- the data that a value tells -/
def toP (st : Sto) : Nat → D → Option PyData
  | 0, _ => none
  | _ + 1, .non => some .none
  | _ + 1, .bl b => some (.bool b)
  | _ + 1, .int i => some (.int i)
  | _ + 1, .str x => some (.str x)
  | n + 1, .tup ds => (mapO (toP st n) ds).map .tuple
  | n + 1, .fz ds => (mapO (toP st n) ds).map .list
  | n + 1, .loc k => match st[k]? with
    | some (.lst ds) => (mapO (toP st n) ds).map .list
    | some (.dK kvs) => (mapO (fun kv => (toP st n kv.2).map fun p => (keyP kv.1, p)) kvs).map .dict
    | _ => none
  | _ + 1, .exo _ => none
mutual
def noList : PyData → Bool
  | .list _ => false
  | .tuple xs => noListAll xs
  | .dict kvs => noListKv kvs
  | _ => true
def noListAll : List PyData → Bool
  | [] => true
  | x :: xs => noList x && noListAll xs
def noListKv : List (PyData × PyData) → Bool
  | [] => true
  | (k, v) :: r => noList k && noList v && noListKv r
end
section
variable {pins : List (Addr × Obj)} {s : Shared} {σ : L2.St} {H : Hp} {M : List Addr} {st : Sto}
/-- reads, and where no list is in it none of the addresses is the one that may not be read -/
def RdP (h : Heap) (u : Value) (p : PyData) : Prop := ∃ as, Reads h u p as ∧ (noList p = true → sysModules ∉ as)
def RdPs (h : Heap) (us : List Value) (ps : List PyData) : Prop := ∃ as, ReadsAll h us ps as ∧ (noListAll ps = true → sysModules ∉ as)
theorem rd_all {n : Nat} (ih : ∀ (d : D) (p : PyData) (v : V) (u : Value), toP st n d = some p → DV X.K M H d v → RelV v u → RdP s.heap u p) :
    ∀ (ds : List D) (ps : List PyData) (vs : List V) (us : List Value), mapO (toP st n) ds = some ps → DVs X.K M H ds vs → Vals vs us → RdPs s.heap us ps
  | [], ps, vs, us, e, h, r => by
    simp only [mapO, Option.some.injEq] at e
    subst e
    rw [h.nil_inv] at r
    cases r
    exact ⟨_, .nil, fun _ => by simp⟩
  | d :: ds, ps, vs, us, e, h, r => by
    simp only [mapO] at e
    split at e
    · rename_i y ys e1 e2
      cases e
      obtain ⟨v, vr, rfl, h1, h2⟩ := h.cons_inv
      cases r with
      | cons r1 r2 =>
        obtain ⟨as, q1, q2⟩ := ih d y v _ e1 h1 r1
        obtain ⟨bs, q3, q4⟩ := rd_all ih ds ys vr _ e2 h2 r2
        refine ⟨_, .cons q1 q3, fun hn => ?_⟩
        simp only [noListAll, Bool.and_eq_true] at hn
        rw [List.mem_append]
        rintro (z | z)
        · exact q2 hn.1 z
        · exact q4 hn.2 z
    · cases e
theorem rd_pairs {n : Nat} (ih : ∀ (d : D) (p : PyData) (v : V) (u : Value), toP st n d = some p → DV X.K M H d v → RelV v u → RdP s.heap u p) :
    ∀ (kvs : List (Key × D)) (ps : List (PyData × PyData)) (ws : List (Key × V)) (us : List (Key × Value)) (es : List DictEntry), mapO (fun kv => (toP st n kv.2).map fun p => (keyP kv.1, p)) kvs = some ps → DKs X.K M H kvs ws → KV ws us → Pairs (mixKind X.prog X.w) es us →
    ∃ bs, ReadsAll s.heap (es.map (·.key)) (ps.map (·.1)) [] ∧ ReadsAll s.heap (es.map (·.val)) (ps.map (·.2)) bs ∧ (noListKv ps = true → sysModules ∉ bs)
  | [], ps, ws, us, es, e, h, r, pr => by
    simp only [mapO, Option.some.injEq] at e
    subst e
    unfold DKs at h
    subst h
    cases r
    cases pr
    exact ⟨_, .nil, .nil, fun _ => by simp⟩
  | (k, d) :: kvs, ps, ws, us, es, e, h, r, pr => by
    simp only [mapO] at e
    split at e
    · rename_i y ys e1 e2
      cases e
      unfold DKs at h
      obtain ⟨v, vr, rfl, h1, h2⟩ := h
      cases r with
      | cons r1 r2 =>
        cases pr with
        | @cons en kv es' kvs' p1 p2 p3 =>
          obtain ⟨rk, rv⟩ := r1
          obtain ⟨bs, q1, q2, q3⟩ := rd_pairs ih kvs ys vr _ _ e2 h2 r2 p3
          obtain ⟨pd, hp, rfl⟩ := Option.map_eq_some_iff.mp e1
          obtain ⟨as, t1, t2⟩ := ih d pd v _ hp h1 rv
          have hk : Reads s.heap en.key (keyP k) [] := by
            rw [← rk] at p1
            rcases keyIs_shape p1 with ⟨i, t, e3, e4⟩ | ⟨i, t, e3, e4⟩
            · rw [e4, show k = _ from e3]; exact .int i t
            · rw [e4, show k = _ from e3]; exact .str i t
          rw [← p2] at t1
          refine ⟨as ++ bs, ?_, .cons t1 q2, fun hn => ?_⟩
          · have := ReadsAll.cons hk q1
            simpa using this
          · simp only [noListKv, Bool.and_eq_true] at hn
            rw [List.mem_append]
            rintro (z | z)
            · exact t2 hn.1.2 z
            · exact q3 hn.2 z
    · cases e
theorem rd_of (I : Inv X pins σ H s) (a : At X.K P M H st) : ∀ (n : Nat) (d : D) (p : PyData) (v : V) (u : Value), toP st n d = some p → DV X.K M H d v → RelV v u → RdP s.heap u p
  | 0, _, _, _, _, e, _, _ => by cases e
  | n + 1, d, p, v, u, e, h, r => by
    have ih := rd_of I a n
    cases d with
    | non => cases e; rw [dv_non.mp h] at r; cases r; exact ⟨_, .none, fun _ => by simp⟩
    | bl b => cases e; rw [dv_bl.mp h] at r; cases r; exact ⟨_, .bool b, fun _ => by simp⟩
    | int i => cases e; rw [dv_int.mp h] at r; obtain ⟨t, rfl⟩ := r; exact ⟨_, .int i t, fun _ => by simp⟩
    | str i => cases e; rw [dv_str.mp h] at r; obtain ⟨t, rfl⟩ := r; exact ⟨_, .str i t, fun _ => by simp⟩
    | tup ds =>
      obtain ⟨ps, hp, rfl⟩ := Option.map_eq_some_iff.mp e
      obtain ⟨b, vs, rfl, h1, h2⟩ := dv_tup.mp h
      cases r
      obtain ⟨its, rv, ⟨o, ho, hc, k, hd⟩, _⟩ := I.tuple h1
      obtain ⟨as, q1, q2⟩ := rd_all ih ds ps vs its hp h2 rv
      exact ⟨as, .tuple ho hc hd q1, q2⟩
    | fz ds =>
      obtain ⟨ps, hp, rfl⟩ := Option.map_eq_some_iff.mp e
      obtain ⟨b, vs, rfl, h1, h2⟩ := dv_fz.mp h
      cases r
      obtain ⟨its, rv, ⟨o, k, ho, hc, _, hd⟩, _⟩ := I.list h1.sq
      obtain ⟨as, q1, q2⟩ := rd_all ih ds ps vs its hp h2 rv
      exact ⟨_, .list ho hc hd q1, fun z => by cases z⟩
    | loc k =>
      obtain ⟨b, rfl, hb⟩ := dv_loc.mp h
      cases r
      simp only [toP] at e
      split at e
      · rename_i ds e1
        obtain ⟨ps, hp, rfl⟩ := Option.map_eq_some_iff.mp e
        obtain ⟨b', vs, k1, k2, h2⟩ := a.lst e1
        rw [hb] at k1; cases k1
        obtain ⟨its, rv, ⟨o, k', ho, hc, _, hd⟩, _⟩ := I.list (SqL.of k2)
        obtain ⟨as, q1, q2⟩ := rd_all ih ds ps vs its hp h2 rv
        exact ⟨_, .list ho hc hd q1, fun z => by cases z⟩
      · rename_i kvs e1
        obtain ⟨ps, hp, rfl⟩ := Option.map_eq_some_iff.mp e
        obtain ⟨b', vs, k1, k2, h2⟩ := a.dK e1
        rw [hb] at k1; cases k1
        obtain ⟨_, hsys, us, rk, o, es, ep, ho, ⟨hx, _⟩, hd, _, pr, _⟩ := I.hok b _ k2
        obtain ⟨bs, q1, q2, q3⟩ := rd_pairs ih kvs ps vs us es.toList hp h2 rk pr
        refine ⟨_, .dict ho hx hd q1 q2, fun z => ?_⟩
        rw [List.cons_append, List.nil_append, List.mem_cons]
        rintro (y | y)
        · rw [← y] at hsys; simp at hsys
        · exact q3 z y
      · cases e
    | exo k => exact (dv_exo h).elim
end
def shownD (d : D) (st : Sto) : Option Str := match toP st 30 d with
  | some p => if p.showable = true ∧ p.shown.length ≤ 16000000 ∧ p.depth ≤ 50 ∧ (p.hasDict = true → noList p = true) then some p.shown else none
  | none => none
def eqP : D → D → Sto → OD := fun x y st => match toP st 30 x, toP st 30 y with
  | some p, some q => if SeqAt.shaped p = true ∧ SeqAt.shaped q = true then some (.bl (PyData.eqv p q), st) else none
  | _, _ => none
theorem eqP_ok (hu : X.A.units + 64 < cLine) : OpR X (compareOp .Eq) (rD2 X.K P eqP) := by
  intro pins s σ H x y v u Q I rx ry q
  obtain ⟨M, st, dx, dy, a, r1, r2, p⟩ := q
  unfold eqP at p
  split at p
  · rename_i p1 p2 e1 e2
    split at p
    · rename_i hs
      obtain ⟨as, q1, _⟩ := rd_of I a 30 dx p1 x v e1 r1 rx
      obtain ⟨bs, q2, _⟩ := rd_of I a 30 dy p2 y u e2 r2 ry
      exact SeqAt.compareEq_shaped q1 q2 hs.1 hs.2 hu ⟨.bl _, H, I, rfl, p.bl a⟩
    · exact p.not.elim
  · exact p.not.elim
theorem neP_ok (hu : X.A.units + 64 < cLine) : OpR X (compareOp .NotEq) (rD2 X.K P (negB eqP)) := by
  intro pins s σ H x y v u Q I rx ry q
  obtain ⟨M, st, dx, dy, a, r1, r2, p⟩ := q
  unfold negB eqP at p
  split at p
  · rename_i b st' e
    split at e
    · rename_i p1 p2 e1 e2
      split at e
      · rename_i hs
        cases e
        obtain ⟨as, q1, _⟩ := rd_of I a 30 dx p1 x v e1 r1 rx
        obtain ⟨bs, q2, _⟩ := rd_of I a 30 dy p2 y u e2 r2 ry
        exact SeqAt.compareNe_shaped q1 q2 hs.1 hs.2 hu ⟨.bl _, H, I, rfl, p.bl a⟩
      · cases e
    · cases e
  · exact p.not.elim
def eqD : D → D → Sto → OD := alt2 eqS eqP
def neD : D → D → Sto → OD := alt2 (negB eqS) (negB eqP)
theorem eq_ok (hu : X.A.units + 64 < cLine) : OpR X (compareOp .Eq) (rD2 X.K P eqD) := alt2_ok eqS_ok (eqP_ok hu)
theorem ne_ok (hu : X.A.units + 64 < cLine) : OpR X (compareOp .NotEq) (rD2 X.K P neD) := alt2_ok neS_ok (neP_ok hu)
def reprD : List D → Sto → OD
  | [d], st => (shownD d st).map fun x => (.str x, st)
  | _, _ => none
theorem repr_any {pins : List (Addr × Obj)} {s : Shared} {σ : L2.St} {H : Hp} {Q : VK} {u : Value} {p : PyData} (I : Inv X pins σ H s) (hu : X.A.units + 64 < cLine) (hg : X.A.guards = some []) (r : RdP s.heap u p) (h1 : p.showable = true) (h2 : p.shown.length ≤ 16000000) (h3 : p.depth ≤ 50) (h4 : p.hasDict = true → noList p = true)
    (q : Q (.str p.shown) H) : wpAny (model X.prog X.w) X.A (call (.builtin "repr") [u]) (EP X pins σ Q) X.xe s := by
  have hz : p.shown.length ≤ sizeLine := by rw [sizeLine_eq]; omega
  obtain ⟨as, r, hs⟩ := r
  have fin : ∀ h' t tk, (∀ b o, s.heap.get? b = some o → h'.get? b = some o) → EP X pins σ Q (.str p.shown t) { s with heap := h', toks := tk } := fun h' t tk k => ⟨.str p.shown, H, I.kept k, ⟨t, rfl⟩, q⟩
  cases r with
  | none => exact PySem.P.repr_of_none (fin _ _ _ fun _ _ h => h)
  | bool b => exact PySem.P.repr_of_bool (fin _ _ _ fun _ _ h => h)
  | int i t => exact PySem.P.repr_of_int (by simpa [PyData.showable] using h1) (fin _ _ _ fun _ _ h => h)
  | str x t => exact PySem.P.repr_of_str (fin _ _ _ fun _ _ h => h) hz
  | list a1 a2 a3 a4 => exact repr_of_reads' (.list a1 a2 a3 a4) h1 (fun hd => hs (h4 hd)) hg (by omega) (fun _ _ h => h) fin hz
  | tuple a1 a2 a3 a4 => exact repr_of_reads' (.tuple a1 a2 a3 a4) h1 (fun hd => hs (h4 hd)) hg (by omega) (fun _ _ h => h) fin hz
  | dict a1 a2 a3 a4 a5 => exact repr_of_reads' (.dict a1 a2 a3 a4 a5) h1 (fun hd => hs (h4 hd)) hg (by omega) (fun _ _ h => h) fin hz
theorem vals_one {x : V} {us : List Value} (r : Vals [x] us) : ∃ u, us = [u] ∧ RelV x u := vals1 r
theorem repr_ok (hu : X.A.units + 64 < cLine) (hg : X.A.guards = some []) : CallR X (.builtin "repr") (rDL X.K P reprD) := by
  intro pins s σ H xs us Q I r h
  obtain ⟨M, st, ds, a, rd, p⟩ := h
  unfold reprD at p
  split at p
  · rename_i d
    obtain ⟨v, vr, rfl, h1, h2⟩ := rd.cons_inv
    rw [h2.nil_inv] at r
    obtain ⟨u, rfl, ru⟩ := vals1 r
    unfold shownD at p
    split at p
    · rename_i w e
      split at p
      · rename_i hc
        obtain ⟨c1, c2, c3, c4⟩ := hc
        exact repr_any I hu hg (rd_of I a 30 d w v u e h1 ru) c1 c2 c3 c4 (p.str a)
      · exact p.not.elim
    · exact p.not.elim
  · exact p.not.elim
end
end
end Q
end

section
set_option Elab.async false
set_option linter.all false
set_option maxRecDepth 100000
set_option maxHeartbeats 1000000
set_option autoImplicit false
/-! Truth, and, or, chains, choices, places, slices; builtin functions and methods. -/
namespace Q
open PySem PySem.Spec PyProof.Rows L2

def cutD {α : Type} (xs : List α) (lo hi : Option Int) : List α := (xs.drop (HT.sIx xs.length 0 lo)).take (HT.sIx xs.length xs.length hi - HT.sIx xs.length 0 lo)
def truD (d : D) (st : Sto) : Option Bool := match d with
  | .non => some false
  | .bl b => some b
  | .int i => some (i != 0)
  | .str x => if x.length ≤ 16000000 then some ((x.length : Int) != 0) else none
  | .tup ds => some (!ds.isEmpty)
  | .fz ds => some (!ds.isEmpty)
  | .loc n => match st[n]? with
    | some (.lst ds) => some (!ds.isEmpty)
    | some (.dK ds) => some (!ds.isEmpty)
    | _ => none
  | .exo _ => none
def lenD : List D → Sto → OD
  | [.str x], st => if x.length ≤ 16000000 then some (.int x.length, st) else none
  | [.tup ds], st => some (.int ds.length, st)
  | [.fz ds], st => some (.int ds.length, st)
  | [.loc n], st => match st[n]? with
    | some (.lst ds) => some (.int ds.length, st)
    | some (.dK ds) => some (.int ds.length, st)
    | _ => none
  | _, _ => none
section
variable {K : PySem.W.Frag} {P : Par} {M : List Addr} {H : Hp} {st : Sto}
theorem DVs.empty {ds : List D} {vs : List V} (h : DVs K M H ds vs) : (!ds.isEmpty) = !vs.isEmpty := by
  cases ds with
  | nil => rw [h.nil_inv]; rfl
  | cons d ds => obtain ⟨v, vr, rfl, _⟩ := h.cons_inv; rfl
theorem DKs.length {κ : Type} : ∀ {ds : List (κ × D)} {vs : List (κ × V)}, DKs K M H ds vs → ds.length = vs.length
  | [], _, h => by unfold DKs at h; rw [h]; rfl
  | (k, d) :: ds, _, h => by
    unfold DKs at h
    obtain ⟨v, vr, rfl, _, h2⟩ := h
    rw [List.length_cons, List.length_cons, DKs.length h2]
theorem DKs.empty {κ : Type} {ds : List (κ × D)} {vs : List (κ × V)} (h : DKs K M H ds vs) : (!ds.isEmpty) = !vs.isEmpty := by
  have := h.length
  cases ds <;> cases vs <;> simp at this ⊢
theorem tru_of (a : At K P M H st) {d : D} {v : V} {k : Bool} (h : DV K M H d v) (e : truD d st = some k) : TruV K v H k := by
  cases d with
  | non => rw [dv_non.mp h]; cases e; rfl
  | bl b => rw [dv_bl.mp h]; cases e; rfl
  | int b => rw [dv_int.mp h]; cases e; rfl
  | str b =>
    rw [dv_str.mp h]
    simp only [truD] at e
    split at e
    · cases e; exact ⟨by rw [sizeLine_eq]; omega, rfl⟩
    · cases e
  | tup ds =>
    obtain ⟨p, vs, rfl, h1, h2⟩ := dv_tup.mp h
    cases e
    exact .inr (.inl ⟨vs, h1, h2.empty⟩)
  | fz ds =>
    obtain ⟨p, vs, rfl, h1, h2⟩ := dv_fz.mp h
    cases e
    exact .inl ⟨vs, h1.sq, h2.empty⟩
  | loc n =>
    obtain ⟨p, rfl, h1⟩ := dv_loc.mp h
    simp only [truD] at e
    split at e
    · rename_i ds e1
      obtain ⟨q, vs, k1, k2, h2⟩ := a.lst e1
      rw [h1] at k1; cases k1
      cases e
      exact .inl ⟨vs, SqL.of k2, h2.empty⟩
    · rename_i ds e1
      obtain ⟨q, vs, k1, k2, h2⟩ := a.dK e1
      rw [h1] at k1; cases k1
      cases e
      exact .inr (.inr ⟨vs, k2, h2.empty⟩)
    · cases e
  | exo k => cases e
end
def ofB (r : Option Bool) (st : Sto) : Res Bool := match r with
  | some b => .ok b st
  | none => .err
def blB (d : D) (st : Sto) : Res Bool := match d with
  | .bl b => .ok b st
  | _ => .err
section
variable {X : Cx} {P : Par} {W : WX} {a b c : Expr} {Fa Fb Fc : Ev → Sto → Res D} {Ta Tb Tc : Ev → Sto → Res Bool} {pos : Pos}
abbrev fTru (Fa : Ev → Sto → Res D) : Ev → Sto → Res Bool := fun env st => (Fa env st).bind fun d s1 => ofB (truD d s1) s1
theorem q_tru (ha : PE X a (tE X.K P W Fa)) (he : ∀ whole, isTrue a X.env whole = (do let v ← whole; standAt a.pos; holding [v] (truthy v))) : PT X a (tT X.K P W (fTru Fa)) := by
  refine ⟨fun pins s σ H Q I h => (pt_truth ha he).run pins s σ H Q I ?_⟩
  obtain ⟨M, env, st, sl, at_, p⟩ := h
  refine tG.go sl at_ p fun x H1 d M1 st1 s1 a1 sl1 r1 p1 => ?_
  cases e : truD d st1 with
  | none => rw [e] at p1; exact p1.elim
  | some k => rw [e] at p1; exact ⟨k, tru_of a1 r1 e, p1 k M1 H1 (Stp.refl _ _) a1 rfl⟩
abbrev fBl (Fa : Ev → Sto → Res D) : Ev → Sto → Res Bool := fun env st => (Fa env st).bind blB
/-- a test of which the value's rule is known to give a bool -/
theorem q_tb {ta : TE} (hp : PT X c (tTest ta)) (hr : ∀ σ H Q, tE X.K P W Fa σ H Q → ta σ H Q) : PT X c (tT X.K P W (fBl Fa)) := by
  refine ⟨fun pins s σ H Q I h => hp.run pins s σ H Q I (hr _ _ _ ?_)⟩
  obtain ⟨M, env, st, sl, at_, p⟩ := h
  refine tG.go sl at_ p fun x H1 d M1 st1 s1 a1 sl1 r1 p1 => ?_
  cases d with
  | bl k => exact ⟨k, dv_bl.mp r1, p1 k M1 H1 (Stp.refl _ _) a1 rfl⟩
  | _ => exact p1.elim
theorem q_tcmp {op : CmpOp} {g : D → D → Sto → OD} (ho : OpR X (compareOp op) (rD2 X.K P g)) (ha : PE X a (tE X.K P W Fa)) (hb : PE X b (tE X.K P W Fb)) (hm : behindInMarks op b = false) :
    PT X (.Compare a [op] [b] pos) (tT X.K P W (fBl fun env st => (Fa env st).bind fun x s1 => (Fb env s1).bind fun y s2 => ofO (g x y s2))) := by
  refine q_tb (pt_cmpR ho ha hb hm) fun σ H Q h => ?_
  obtain ⟨M, env, st, sl, at_, p⟩ := h
  exact tG.go sl at_ p fun x H1 dx M1 st1 s1 a1 sl1 r1 p1 => tG.go sl1 a1 p1 fun y H2 dy M2 st2 s2 a2 sl2 r2 p2 => ⟨M2, st2, dx, dy, a2, r1.mono a1.mok s2, r2, p2.toO⟩
/-! chains -/
abbrev fChain (g g' : D → D → Sto → OD) (Fa Fb Fc : Ev → Sto → Res D) : Ev → Sto → Res D := fun env st => (Fa env st).bind fun x s1 => (Fb env s1).bind fun y s2 => (ofO (g x y s2)).bind fun z s3 => (blB z s3).bind fun k s4 =>
  if k = true then (Fc env s4).bind fun w s5 => ofO (g' y w s5) else .ok (.bl false) s4
theorem q_chain_r {g g' : D → D → Sto → OD} {σ : L2.St} {H : Hp} {Q : VK} (h : tE X.K P W (fChain g g' Fa Fb Fc) σ H Q) : tChain (rD2 X.K P g) (rD2 X.K P g') (tE X.K P W Fa) (tE X.K P W Fb) (tE X.K P W Fc) σ H Q := by
  obtain ⟨M, env, st, sl, at_, p⟩ := h
  refine tG.go sl at_ p fun x H1 dx M1 st1 s1 a1 sl1 r1 p1 => tG.go sl1 a1 p1 fun y H2 dy M2 st2 s2 a2 sl2 r2 p2 => ⟨M2, st2, dx, dy, a2, r1.mono a1.mok s2, r2, ?_⟩
  cases e : g dx dy st2 with
  | none => rw [e] at p2; exact p2.elim
  | some r =>
    obtain ⟨z, s3⟩ := r
    rw [e] at p2
    refine ⟨z, s3, rfl, fun v M3 H3 t3 a3 r3 => ?_⟩
    cases z with
    | bl k =>
      refine ⟨k, dv_bl.mp r3, ?_⟩
      have p3 := Post.step t3 p2
      have sl3 := sl2.mono a2.mok t3
      have r2' := r2.mono a2.mok t3
      cases k with
      | true =>
        rw [if_pos rfl]
        exact tG.go sl3 a3 p3 fun w H4 dw M4 st4 s4 a4 sl4 r4 p4 => ⟨M4, st4, dy, dw, a4, r2'.mono a3.mok s4, r4, p4.toO⟩
      | false =>
        rw [if_neg Bool.false_ne_true]
        exact p3 (.bl false) M3 H3 (Stp.refl _ _) a3 (dv_bl.mpr rfl)
    | _ => exact p2.elim
theorem q_chain {op op' : CmpOp} {g g' : D → D → Sto → OD} (ho : OpR X (compareOp op) (rD2 X.K P g)) (ho' : OpR X (compareOp op') (rD2 X.K P g')) (ha : PE X a (tE X.K P W Fa)) (hb : PE X b (tE X.K P W Fb)) (hc : PE X c (tE X.K P W Fc)) (hm : lastMarks [op, op'] [b, c] = false) :
    PE X (.Compare a [op, op'] [b, c] pos) (tE X.K P W (fChain g g' Fa Fb Fc)) :=
  ⟨fun pins s σ H Q I h => (pe_chain ho ho' ha hb hc hm).run pins s σ H Q I (q_chain_r h)⟩
theorem q_tchain {op op' : CmpOp} {g g' : D → D → Sto → OD} (ho : OpR X (compareOp op) (rD2 X.K P g)) (ho' : OpR X (compareOp op') (rD2 X.K P g')) (ha : PE X a (tE X.K P W Fa)) (hb : PE X b (tE X.K P W Fb)) (hc : PE X c (tE X.K P W Fc)) (hm : lastMarks [op, op'] [b, c] = false) :
    PT X (.Compare a [op, op'] [b, c] pos) (tT X.K P W (fBl (fChain g g' Fa Fb Fc))) := q_tb (pt_chain ho ho' ha hb hc hm) fun σ H Q h => q_chain_r h
/-! and, or, not, if -/
abbrev fAnd (Fa Fb : Ev → Sto → Res D) : Ev → Sto → Res D := fun env st => (Fa env st).bind fun x s1 => (ofB (truD x s1) s1).bind fun k s2 => if k = true then Fb env s2 else .ok x s2
abbrev fOr (Fa Fb : Ev → Sto → Res D) : Ev → Sto → Res D := fun env st => (Fa env st).bind fun x s1 => (ofB (truD x s1) s1).bind fun k s2 => if k = true then .ok x s2 else Fb env s2
abbrev fNot (Fa : Ev → Sto → Res D) : Ev → Sto → Res D := fun env st => (Fa env st).bind fun x s1 => (ofB (truD x s1) s1).bind fun k s2 => .ok (.bl (!k)) s2
abbrev gAnd (Ta Tb : Ev → Sto → Res Bool) : Ev → Sto → Res Bool := fun env st => (Ta env st).bind fun k s1 => if k = true then Tb env s1 else .ok false s1
abbrev gOr (Ta Tb : Ev → Sto → Res Bool) : Ev → Sto → Res Bool := fun env st => (Ta env st).bind fun k s1 => if k = true then .ok true s1 else Tb env s1
abbrev gNot (Ta : Ev → Sto → Res Bool) : Ev → Sto → Res Bool := fun env st => (Ta env st).bind fun k s1 => .ok (!k) s1
abbrev fIf (Tc : Ev → Sto → Res Bool) (Fa Fb : Ev → Sto → Res D) : Ev → Sto → Res D := fun env st => (Tc env st).bind fun k s1 => if k = true then Fa env s1 else Fb env s1
abbrev gIf (Tc : Ev → Sto → Res Bool) (Ta Tb : Ev → Sto → Res Bool) : Ev → Sto → Res Bool := fun env st => (Tc env st).bind fun k s1 => if k = true then Ta env s1 else Tb env s1
theorem Post.dec {α β : Type} {K : PySem.W.Frag} {M : List Addr} {H : Hp} {R : List Addr → Hp → α → β → Prop} {Wx : Value → Option Addr → Hp → Prop} {Q : β → Hp → Prop} {r : Option Bool} {st : Sto} {G : Bool → Sto → Res α} (h : Post K P M H R Wx ((ofB r st).bind G) Q) : ∃ k, r = some k ∧ Post K P M H R Wx (G k st) Q := by
  cases r with
  | none => exact h.elim
  | some k => exact ⟨k, rfl, h⟩
variable {rest : List Expr}
theorem q_and (ha : PE X a (tE X.K P W Fa)) (hb : PE X (.BoolOp .And (b :: rest) pos) (tE X.K P W Fb)) : PE X (.BoolOp .And (a :: b :: rest) pos) (tE X.K P W (fAnd Fa Fb)) := by
  refine ⟨fun pins s σ H Q I h => (pe_andT ha hb).run pins s σ H Q I ?_⟩
  obtain ⟨M, env, st, sl, at_, p⟩ := h
  refine tG.go sl at_ p fun x H1 d M1 st1 s1 a1 sl1 r1 p1 => ?_
  obtain ⟨k, e, p2⟩ := Post.dec p1
  refine ⟨k, tru_of a1 r1 e, ?_⟩
  cases k with
  | true => rw [if_pos rfl] at p2 ⊢; exact tG.last sl1 a1 p2
  | false => rw [if_neg Bool.false_ne_true] at p2 ⊢; exact p2 x M1 H1 (Stp.refl _ _) a1 r1
theorem q_or (ha : PE X a (tE X.K P W Fa)) (hb : PE X (.BoolOp .Or (b :: rest) pos) (tE X.K P W Fb)) : PE X (.BoolOp .Or (a :: b :: rest) pos) (tE X.K P W (fOr Fa Fb)) := by
  refine ⟨fun pins s σ H Q I h => (pe_orT ha hb).run pins s σ H Q I ?_⟩
  obtain ⟨M, env, st, sl, at_, p⟩ := h
  refine tG.go sl at_ p fun x H1 d M1 st1 s1 a1 sl1 r1 p1 => ?_
  obtain ⟨k, e, p2⟩ := Post.dec p1
  refine ⟨k, tru_of a1 r1 e, ?_⟩
  cases k with
  | true => rw [if_pos rfl] at p2 ⊢; exact p2 x M1 H1 (Stp.refl _ _) a1 r1
  | false => rw [if_neg Bool.false_ne_true] at p2 ⊢; exact tG.last sl1 a1 p2
theorem q_not (ha : PE X a (tE X.K P W Fa)) : PE X (.UnaryOp .Not a pos) (tE X.K P W (fNot Fa)) := by
  refine ⟨fun pins s σ H Q I h => (pe_notT ha).run pins s σ H Q I ?_⟩
  obtain ⟨M, env, st, sl, at_, p⟩ := h
  refine tG.go sl at_ p fun x H1 d M1 st1 s1 a1 sl1 r1 p1 => ?_
  obtain ⟨k, e, p2⟩ := Post.dec p1
  exact ⟨k, tru_of a1 r1 e, p2 (.bl (!k)) M1 H1 (Stp.refl _ _) a1 (dv_bl.mpr rfl)⟩
theorem q_wand (ha : PT X a (tT X.K P W Ta)) (hb : PW X (.BoolOp .And (b :: rest) pos) (tT X.K P W Tb)) : PW X (.BoolOp .And (a :: b :: rest) pos) (tT X.K P W (gAnd Ta Tb)) := by
  refine ⟨fun wh pins s σ H Q I h => (pw_and ha hb).run wh pins s σ H Q I ?_⟩
  obtain ⟨M, env, st, sl, at_, p⟩ := h
  refine tG.go sl at_ p fun x H1 d M1 st1 s1 a1 sl1 r1 p1 => ?_
  subst r1
  cases d with
  | true => rw [if_pos rfl] at p1 ⊢; exact tG.last sl1 a1 p1
  | false => rw [if_neg Bool.false_ne_true] at p1 ⊢; exact p1 false M1 H1 (Stp.refl _ _) a1 rfl
theorem q_wor (ha : PT X a (tT X.K P W Ta)) (hb : PW X (.BoolOp .Or (b :: rest) pos) (tT X.K P W Tb)) : PW X (.BoolOp .Or (a :: b :: rest) pos) (tT X.K P W (gOr Ta Tb)) := by
  refine ⟨fun wh pins s σ H Q I h => (pw_or ha hb).run wh pins s σ H Q I ?_⟩
  obtain ⟨M, env, st, sl, at_, p⟩ := h
  refine tG.go sl at_ p fun x H1 d M1 st1 s1 a1 sl1 r1 p1 => ?_
  subst r1
  cases d with
  | true => rw [if_pos rfl] at p1 ⊢; exact p1 true M1 H1 (Stp.refl _ _) a1 rfl
  | false => rw [if_neg Bool.false_ne_true] at p1 ⊢; exact tG.last sl1 a1 p1
theorem q_tnot (ha : PT X a (tT X.K P W Ta)) : PT X (.UnaryOp .Not a pos) (tT X.K P W (gNot Ta)) := by
  refine ⟨fun pins s σ H Q I h => (pt_not ha).run pins s σ H Q I ?_⟩
  obtain ⟨M, env, st, sl, at_, p⟩ := h
  refine tG.go sl at_ p fun x H1 d M1 st1 s1 a1 sl1 r1 p1 => ?_
  subst r1
  exact p1 (!d) M1 H1 (Stp.refl _ _) a1 rfl
theorem q_if (hc : PT X c (tT X.K P W Tc)) (ha : PE X a (tE X.K P W Fa)) (hb : PE X b (tE X.K P W Fb)) : PE X (.IfExp c a b pos) (tE X.K P W (fIf Tc Fa Fb)) := by
  refine ⟨fun pins s σ H Q I h => (pe_ifExp hc ha hb).run pins s σ H Q I ?_⟩
  obtain ⟨M, env, st, sl, at_, p⟩ := h
  refine tG.go sl at_ p fun x H1 d M1 st1 s1 a1 sl1 r1 p1 => ?_
  subst r1
  cases d with
  | true => rw [if_pos rfl] at p1 ⊢; exact tG.last sl1 a1 p1
  | false => rw [if_neg Bool.false_ne_true] at p1 ⊢; exact tG.last sl1 a1 p1
theorem q_tif (hc : PT X c (tT X.K P W Tc)) (ha : PT X a (tT X.K P W Ta)) (hb : PT X b (tT X.K P W Tb)) : PT X (.IfExp c a b pos) (tT X.K P W (gIf Tc Ta Tb)) := by
  refine ⟨fun pins s σ H Q I h => PyProof.Rows.isTrue_IfExp (thn (hc.run pins s σ H (fun k H1 => if k = true then tT X.K P W Ta σ H1 Q else tT X.K P W Tb σ H1 Q) I ?_) fun k s1 ⟨H1, I1, q1⟩ => ?_)⟩
  · obtain ⟨M, env, st, sl, at_, p⟩ := h
    refine tG.go sl at_ p fun x H1 d M1 st1 s1 a1 sl1 r1 p1 => ?_
    subst r1
    cases d with
    | true => rw [if_pos rfl] at p1 ⊢; exact tG.last sl1 a1 p1
    | false => rw [if_neg Bool.false_ne_true] at p1 ⊢; exact tG.last sl1 a1 p1
  · cases k with
    | true => rw [if_pos rfl] at q1 ⊢; exact ha.run pins s1 σ H1 Q I1 q1
    | false => rw [if_neg Bool.false_ne_true] at q1 ⊢; exact hb.run pins s1 σ H1 Q I1 q1

/-! ### places and slices -/
def keyD : D → Option Key
  | .int i => some (.inl i) | .str x => some (.inr x) | _ => none
def lookD (kvs : List (Key × D)) (k : Key) : Option D := (kvs.find? fun kv => decide (kv.1 = k)).map (·.2)
def putD (kvs : List (Key × D)) (k : Key) (d : D) : List (Key × D) := if (kvs.any fun kv => decide (kv.1 = k)) = true then kvs.map (fun kv => if kv.1 = k then (kv.1, d) else kv) else kvs ++ [(k, d)]
def ixT : D → D → Sto → OD
  | .tup ds, .int i, st => (atI ds i).map fun d => (d, st)
  | _, _, _ => none
def ixF : D → D → Sto → OD
  | .fz ds, .int i, st => (atI ds i).map fun d => (d, st)
  | _, _, _ => none
def ixL : D → D → Sto → OD
  | .loc n, .int i, st => match st[n]? with
    | some (.lst ds) => (atI ds i).map fun d => (d, st)
    | _ => none
  | _, _, _ => none
def ixS : D → D → Sto → OD
  | .str x, .int i, st => if x.length ≤ 16000000 then (atI x.cps.toList i).map fun c => (.str ⟨#[c]⟩, st) else none
  | _, _, _ => none
def ixK : D → D → Sto → OD
  | .loc n, k, st => match st[n]?, keyD k with
    | some (.dK kvs), some k => (lookD kvs k).map fun d => (d, st)
    | _, _ => none
  | _, _, _ => none
theorem altI_ok {g h : D → D → Sto → OD} (o1 : IxR X (rD2 X.K P g)) (o2 : IxR X (rD2 X.K P h)) : IxR X (rD2 X.K P (alt2 g h)) := by
  intro value slice pins s σ H x y v u Q I rx ry q hs
  obtain ⟨M, st, dx, dy, a, r1, r2, p⟩ := q
  unfold alt2 at p
  cases e : g dx dy st with
  | none => rw [e] at p; exact o2 value slice pins s σ H x y v u Q I rx ry ⟨M, st, dx, dy, a, r1, r2, p⟩ hs
  | some r => rw [e] at p; exact o1 value slice pins s σ H x y v u Q I rx ry ⟨M, st, dx, dy, a, r1, r2, by rw [e]; exact p⟩ hs
theorem atI_rel {K : PySem.W.Frag} {M : List Addr} {H : Hp} {ds : List D} {vs : List V} {i : Int} {d : D} (h : DVs K M H ds vs) (e : atI ds i = some d) : ∃ v, atI vs i = some v ∧ DV K M H d v := by
  unfold atI at e ⊢
  rw [← h.length]
  cases hk : ixN ds.length i with
  | none => rw [hk] at e; cases e
  | some j => rw [hk] at e; exact h.get e
theorem ixT_ok : IxR X (rD2 X.K P ixT) := by
  intro value slice pins s σ H x y v u Q I rx ry q hs
  obtain ⟨M, st, dx, dy, a, r1, r2, p⟩ := q
  unfold ixT at p
  split at p
  · rename_i ds i
    rw [dv_int] at r2
    obtain ⟨t, vs, rfl, h1, h2⟩ := dv_tup.mp r1
    cases e : atI ds i with
    | none => rw [e] at p; exact p.not.elim
    | some d =>
      rw [e] at p
      obtain ⟨w, e1, e2⟩ := atI_rel h2 e
      exact ix_tup value slice pins s σ H _ y v u Q I rx ry ⟨t, vs, i, w, rfl, r2, h1, e1, p.pure a e2⟩ hs
  · exact p.not.elim
theorem ixF_ok : IxR X (rD2 X.K P ixF) := by
  intro value slice pins s σ H x y v u Q I rx ry q hs
  obtain ⟨M, st, dx, dy, a, r1, r2, p⟩ := q
  unfold ixF at p
  split at p
  · rename_i ds i
    rw [dv_int] at r2
    obtain ⟨t, vs, rfl, h1, h2⟩ := dv_fz.mp r1
    cases e : atI ds i with
    | none => rw [e] at p; exact p.not.elim
    | some d =>
      rw [e] at p
      obtain ⟨w, e1, e2⟩ := atI_rel h2 e
      exact ix_list value slice pins s σ H _ y v u Q I rx ry ⟨t, vs, i, w, rfl, r2, h1.sq, e1, p.pure a e2⟩ hs
  · exact p.not.elim
theorem ixL_ok : IxR X (rD2 X.K P ixL) := by
  intro value slice pins s σ H x y v u Q I rx ry q hs
  obtain ⟨M, st, dx, dy, a, r1, r2, p⟩ := q
  unfold ixL at p
  split at p
  · rename_i n i
    rw [dv_int] at r2
    obtain ⟨t, rfl, h1⟩ := dv_loc.mp r1
    split at p
    · rename_i ds e1
      obtain ⟨t', vs, k1, k2, h2⟩ := a.lst e1
      rw [h1] at k1; cases k1
      cases e : atI ds i with
      | none => rw [e] at p; exact p.not.elim
      | some d =>
        rw [e] at p
        obtain ⟨w, e1, e2⟩ := atI_rel h2 e
        exact ix_list value slice pins s σ H _ y v u Q I rx ry ⟨t, vs, i, w, rfl, r2, SqL.of k2, e1, p.pure a e2⟩ hs
    · exact p.not.elim
  · exact p.not.elim
theorem ixS_ok : IxR X (rD2 X.K P ixS) := by
  intro value slice pins s σ H x y v u Q I rx ry q hs
  obtain ⟨M, st, dx, dy, a, r1, r2, p⟩ := q
  unfold ixS at p
  split at p
  · rename_i z i
    rw [dv_int] at r2
    rw [dv_str] at r1
    split at p
    · rename_i hz
      cases e : atI z.cps.toList i with
      | none => rw [e] at p; exact p.not.elim
      | some c =>
        rw [e] at p
        exact ix_str value slice pins s σ H x y v u Q I rx ry ⟨z, i, c, r1, r2, by rw [sizeLine_eq]; omega, e, p.str a⟩ hs
    · exact p.not.elim
  · exact p.not.elim
theorem keyD_of {K : PySem.W.Frag} {M : List Addr} {H : Hp} {d : D} {v : V} {k : Key} (h : DV K M H d v) (e : keyD d = some k) : v = kV k := by
  cases d <;> simp only [keyD, Option.some.injEq, reduceCtorEq] at e <;> subst e
  · exact dv_int.mp h
  · exact dv_str.mp h
theorem look_rel {K : PySem.W.Frag} {M : List Addr} {H : Hp} {k : Key} : ∀ {ds : List (Key × D)} {vs : List (Key × V)}, DKs K M H ds vs → (∀ d, lookD ds k = some d → ∃ v, valV vs k = some v ∧ DV K M H d v) ∧ (lookD ds k = none → valV vs k = none)
  | [], vs, h => by unfold DKs at h; subst h; exact ⟨fun d e => (by cases e), fun _ => rfl⟩
  | (k', d') :: ds, vs, h => by
    unfold DKs at h
    obtain ⟨v, vr, rfl, h1, h2⟩ := h
    have ih := look_rel (k := k) h2
    by_cases hk : k' = k
    · subst hk
      refine ⟨fun d e => ?_, fun e => ?_⟩
      · simp only [lookD, List.find?_cons, decide_true, Option.map_some, Option.some.injEq] at e
        subst e
        exact ⟨v, by simp [valV], h1⟩
      · simp [lookD] at e
    · have e1 : lookD ((k', d') :: ds) k = lookD ds k := by simp [lookD, hk]
      have e2 : valV ((k', v) :: vr) k = valV vr k := by simp [valV, hk]
      rw [e1, e2]
      exact ih
theorem ixK_ok (hu : X.A.units + 64 < cLine) : IxR X (rD2 X.K P ixK) := by
  intro value slice pins s σ H x y v u Q I rx ry q hs
  obtain ⟨M, st, dx, dy, a, r1, r2, p⟩ := q
  unfold ixK at p
  split at p
  · rename_i n
    obtain ⟨t, rfl, h1⟩ := dv_loc.mp r1
    split at p
    · rename_i kvs k e1 e2
      obtain ⟨t', vs, k1, k2, h2⟩ := a.dK e1
      rw [h1] at k1; cases k1
      cases e : lookD kvs k with
      | none => rw [e] at p; exact p.not.elim
      | some d =>
        rw [e] at p
        obtain ⟨w, e3, e4⟩ := (look_rel h2).1 d e
        cases rx
        have g : DGet H t y (some w) := .inl ⟨vs, k, Rd.of k2, keyD_of r2 e2, e3.symm⟩
        exact tail_any (dict_typeIs I g) PySem.F.slot_dict_getitem.lookup (d_getItem (by omega) I g ry fun w' s' I' rw' => ⟨w, H, I', rw', p.pure a e4⟩) hs
    · exact p.not.elim
  · exact p.not.elim
def ixD : D → D → Sto → OD := alt2 ixT (alt2 ixL (alt2 ixK (alt2 ixS ixF)))
theorem ix_ok (hu : X.A.units + 64 < cLine) : IxR X (rD2 X.K P ixD) := altI_ok ixT_ok (altI_ok ixL_ok (altI_ok (ixK_ok hu) (altI_ok ixS_ok ixF_ok)))
end
end Q
end

section
set_option Elab.async false
set_option linter.all false
set_option maxRecDepth 100000
set_option maxHeartbeats 1000000
set_option autoImplicit false
/-! Slices, builtin functions, methods of lists. -/
namespace Q
open PySem PySem.Spec PyProof.Rows L2

section
variable {K : PySem.W.Frag} {M : List Addr} {H : Hp}
theorem DVs.cut {ds : List D} {vs : List V} (h : DVs K M H ds vs) (lo hi : Option Int) : DVs K M H (cutD ds lo hi) (cutV vs lo hi) := by
  unfold cutD cutV
  rw [h.length]
  exact (h.drop _).take _
theorem cutD_len {α : Type} (xs : List α) (lo hi : Option Int) : (cutD xs lo hi).length ≤ xs.length := by
  unfold cutD
  rw [List.length_take, List.length_drop]
  omega
end
def slD (d : D) (lo hi : Option Int) (st : Sto) : OD := match d with
  | .tup ds => some (.tup (cutD ds lo hi), st)
  | .fz ds => some (.loc st.length, st ++ [.lst (cutD ds lo hi)])
  | .str x => if x.length ≤ 16000000 then some (.str (Txt.slice x lo hi), st) else none
  | .loc n => match st[n]? with
    | some (.lst ds) => some (.loc st.length, st ++ [.lst (cutD ds lo hi)])
    | _ => none
  | _ => none
def rSl (K : PySem.W.Frag) (P : Par) : V → Option Int → Option Int → Hp → VK → Prop := fun x lo hi H Q => ∃ M st d, At K P M H st ∧ DV K M H d x ∧ PostO K P M H (slD d lo hi st) Q
section
variable {X : Cx} {P : Par} {W : WX}
theorem sl_ok : SlR X (rSl X.K P) := by
  intro pins s σ H x v vl vu lo hi sl Q I rx hs pl pu q
  obtain ⟨M, st, d, a, r1, p⟩ := q
  unfold slD at p
  split at p
  · rename_i ds
    obtain ⟨t, vs, rfl, h1, h2⟩ := dv_tup.mp r1
    refine sl_tupA pins s σ H _ v vl vu lo hi sl Q I rx hs pl pu ⟨t, vs, rfl, h1, fun hw => ?_, fun _ p' hp => p.tup rfl a (h2.cut lo hi) hp⟩
    have e : cutD ds lo hi = ds := by
      unfold cutD
      rw [h2.length, hw.1, hw.2, List.drop_zero, Nat.sub_zero, ← h2.length, List.take_length]
    rw [e] at p
    exact p.pure a r1
  · rename_i ds
    obtain ⟨t, vs, rfl, h1, h2⟩ := dv_fz.mp r1
    exact sl_list pins s σ H _ v vl vu lo hi sl Q I rx hs pl pu ⟨t, vs, rfl, h1.sq, fun p' hp => p.lst rfl a (h2.cut lo hi) hp⟩
  · rename_i z
    rw [dv_str] at r1
    split at p
    · exact C8.sl_txt pins s σ H x v vl vu lo hi sl Q I rx hs pl pu ⟨z, r1, by rw [sizeLine_eq]; omega, p.str a⟩
    · exact p.not.elim
  · rename_i n
    obtain ⟨t, rfl, h1⟩ := dv_loc.mp r1
    split at p
    · rename_i ds e1
      obtain ⟨t', vs, k1, k2, h2⟩ := a.lst e1
      rw [h1] at k1; cases k1
      exact sl_list pins s σ H _ v vl vu lo hi sl Q I rx hs pl pu ⟨t, vs, rfl, SqL.of k2, fun p' hp => p.lst rfl a (h2.cut lo hi) hp⟩
    · exact p.not.elim
  · exact p.not.elim
/-- a slice's part -/
abbrev tO (K : PySem.W.Frag) (P : Par) (W : WX) (F : Ev → Sto → Res (Option Int)) : TO := tG K P W (fun _ _ (a b : Option Int) => a = b) F
def partD (d : D) (st : Sto) : Res (Option Int) := match d with
  | .int i => .ok (some i) st
  | _ => .err
theorem q_non : PO X none (tO X.K P W fun _ st => .ok none st) := by
  refine ⟨fun pins s σ H Q I h => po_none.run pins s σ H Q I ?_⟩
  obtain ⟨M, env, st, sl, at_, p⟩ := h
  exact p none M H (Stp.refl _ _) at_ rfl
theorem q_som {e : Expr} {F : Ev → Sto → Res D} (h : PE X e (tE X.K P W F)) : PO X (some e) (tO X.K P W fun env st => (F env st).bind partD) := by
  refine ⟨fun pins s σ H Q I hh => (po_some h).run pins s σ H Q I ?_⟩
  obtain ⟨M, env, st, sl, at_, p⟩ := hh
  refine tG.go sl at_ p fun x H1 d M1 st1 s1 a1 sl1 r1 p1 => ?_
  cases d with
  | int i => exact ⟨i, dv_int.mp r1, p1 (some i) M1 H1 (Stp.refl _ _) a1 rfl⟩
  | _ => exact p1.elim
theorem q_slice {e : Expr} {lo hi : Option Expr} {Fa : Ev → Sto → Res D} {Fl Fh : Ev → Sto → Res (Option Int)} {p2 pos : Pos} (ha : PE X e (tE X.K P W Fa)) (hl : PO X lo (tO X.K P W Fl)) (hh : PO X hi (tO X.K P W Fh)) :
    PE X (.Subscript e (.Slice lo hi none p2) pos) (tE X.K P W fun env st => (Fa env st).bind fun d s1 => (Fl env s1).bind fun l s2 => (Fh env s2).bind fun u s3 => ofO (slD d l u s3)) := by
  refine ⟨fun pins s σ H Q I h => (pe_slice (sl_ok (P := P)) ha hl hh).run pins s σ H Q I ?_⟩
  obtain ⟨M, env, st, sl, at_, p⟩ := h
  refine tG.go sl at_ p fun x H1 d M1 st1 s1 a1 sl1 r1 p1 => tG.go sl1 a1 p1 fun l H2 dl M2 st2 s2 a2 sl2 r2 p2 => tG.go sl2 a2 p2 fun u H3 du M3 st3 s3 a3 sl3 r3 p3 => ?_
  subst r2 r3
  exact ⟨M3, st3, d, a3, (r1.mono a1.mok s2).mono a2.mok s3, p3.toO⟩
def revD (d : D) (st : Sto) : OD := match d with
  | .fz ds => some (.loc st.length, st ++ [.lst ds.reverse])
  | .loc n => match st[n]? with
    | some (.lst ds) => some (.loc st.length, st ++ [.lst ds.reverse])
    | _ => none
  | _ => none
theorem q_rev {e : Expr} {Fa : Ev → Sto → Res D} {k : Nat} {p1 p2 p3 pos : Pos} (ha : PE X e (tE X.K P W Fa)) :
    PE X (.Subscript e (.Slice none none (some (.UnaryOp .USub (.Constant (.int 1) k p1) p2)) p3) pos) (tE X.K P W fun env st => (Fa env st).bind fun d s1 => ofO (revD d s1)) := by
  refine ⟨fun pins s σ H Q I h => (pe_revL ha).run pins s σ H Q I ?_⟩
  obtain ⟨M, env, st, sl, at_, p⟩ := h
  refine tG.go sl at_ p fun x H1 d M1 st1 s1 a1 sl1 r1 p1 => ?_
  have p1 := p1.toO
  unfold revD at p1
  split at p1
  · rename_i ds
    obtain ⟨t, vs, rfl, h1, h2⟩ := dv_fz.mp r1
    exact ⟨t, vs, rfl, h1.sq, fun q hq => p1.lst rfl a1 h2.reverse hq⟩
  · rename_i n
    obtain ⟨t, rfl, h1⟩ := dv_loc.mp r1
    split at p1
    · rename_i ds e1
      obtain ⟨t', vs, k1, k2, h2⟩ := a1.lst e1
      rw [h1] at k1; cases k1
      exact ⟨t, vs, rfl, SqL.of k2, fun q hq => p1.lst rfl a1 h2.reverse hq⟩
    · exact p1.not.elim
  · exact p1.not.elim

/-! ### builtin functions -/
theorem cr_imp {f : Value} {r r' : List V → Hp → VK → Prop} (h : CallR X f r) (k : ∀ xs H Q, r' xs H Q → r xs H Q) : CallR X f r' := fun pins s σ H xs us Q I rx q => h pins s σ H xs us Q I rx (k _ _ _ q)
theorem one_of {K : PySem.W.Frag} {M : List Addr} {H : Hp} {d : D} {xs : List V} (h : DVs K M H [d] xs) : ∃ v, xs = [v] ∧ DV K M H d v := by
  obtain ⟨v, vr, rfl, h1, h2⟩ := h.cons_inv
  exact ⟨v, by rw [h2.nil_inv], h1⟩
theorem two_of {K : PySem.W.Frag} {M : List Addr} {H : Hp} {d e : D} {xs : List V} (h : DVs K M H [d, e] xs) : ∃ v w, xs = [v, w] ∧ DV K M H d v ∧ DV K M H e w := by
  obtain ⟨v, vr, rfl, h1, h2⟩ := h.cons_inv
  obtain ⟨w, rfl, h3⟩ := one_of h2
  exact ⟨v, w, rfl, h1, h3⟩
theorem len_ok : CallR X (.builtin "len") (rDL X.K P lenD) := by
  intro pins s σ H xs us Q I r h
  obtain ⟨M, st, ds, a, rd, p⟩ := h
  unfold lenD at p
  split at p
  · obtain ⟨v, rfl, h1⟩ := one_of rd
    rw [dv_str.mp h1] at r
    split at p
    · exact call_len pins s σ H _ us Q I r ⟨_, _, rfl, ⟨by rw [sizeLine_eq]; omega, rfl⟩, p.int a⟩
    · exact p.not.elim
  · rename_i ds
    obtain ⟨v, rfl, h1⟩ := one_of rd
    obtain ⟨t, vs, rfl, h2, h3⟩ := dv_tup.mp h1
    rw [h3.length] at p
    exact call_len pins s σ H _ us Q I r ⟨_, _, rfl, .inr ⟨vs, h2, rfl⟩, p.int a⟩
  · rename_i ds
    obtain ⟨v, rfl, h1⟩ := one_of rd
    obtain ⟨t, vs, rfl, h2, h3⟩ := dv_fz.mp h1
    rw [h3.length] at p
    exact call_len pins s σ H _ us Q I r ⟨_, _, rfl, .inl ⟨vs, h2.sq, rfl⟩, p.int a⟩
  · rename_i n
    obtain ⟨v, rfl, h1⟩ := one_of rd
    obtain ⟨t, rfl, h2⟩ := dv_loc.mp h1
    split at p
    · rename_i ds e1
      obtain ⟨t', vs, k1, k2, h3⟩ := a.lst e1
      rw [h2] at k1; cases k1
      rw [h3.length] at p
      exact call_len pins s σ H _ us Q I r ⟨_, _, rfl, .inl ⟨vs, SqL.of k2, rfl⟩, p.int a⟩
    · rename_i ds e1
      obtain ⟨t', vs, k1, k2, h3⟩ := a.dK e1
      rw [h2] at k1; cases k1
      rw [h3.length] at p
      exact call_lenD pins s σ H _ us Q I r ⟨t, vs, rfl, k2, p.int a⟩
    · exact p.not.elim
  · exact p.not.elim
def intD : List D → Sto → OD
  | [.int i], st => some (.int i, st)
  | [.bl b], st => some (.int (if b then 1 else 0), st)
  | _, _ => none
theorem int_ok : CallR X (.type "int") (rDL X.K P intD) := by
  refine cr_imp call_int1 fun xs H Q h => ?_
  obtain ⟨M, st, ds, a, rd, p⟩ := h
  unfold intD at p
  split at p
  · obtain ⟨v, rfl, h1⟩ := one_of rd
    rw [dv_int.mp h1]
    exact .inl ⟨_, rfl, p.int a⟩
  · obtain ⟨v, rfl, h1⟩ := one_of rd
    rw [dv_bl.mp h1]
    exact .inr ⟨_, rfl, p.int a⟩
  · exact p.not.elim
def absD : List D → Sto → OD
  | [.int i], st => some (.int (if i < 0 then -i else i), st)
  | _, _ => none
theorem abs_ok : CallR X (.builtin "abs") (rDL X.K P absD) := by
  refine cr_imp call_abs fun xs H Q h => ?_
  obtain ⟨M, st, ds, a, rd, p⟩ := h
  unfold absD at p
  split at p
  · obtain ⟨v, rfl, h1⟩ := one_of rd
    rw [dv_int.mp h1]
    exact ⟨_, rfl, p.int a⟩
  · exact p.not.elim
def gcdD : List D → Sto → OD
  | [.int i, .int j], st => some (.int (Nat.gcd i.natAbs j.natAbs : Nat), st)
  | _, _ => none
theorem gcd_ok : CallR X (.builtin "math.gcd") (rDL X.K P gcdD) := by
  refine cr_imp cr_gcd fun xs H Q h => ?_
  obtain ⟨M, st, ds, a, rd, p⟩ := h
  unfold gcdD at p
  split at p
  · obtain ⟨v, w, rfl, h1, h2⟩ := two_of rd
    rw [dv_int.mp h1, dv_int.mp h2]
    exact ⟨_, _, rfl, p.int a⟩
  · exact p.not.elim
/-- the items of a list or a tuple -/
def seqD (d : D) (st : Sto) : Option (List D) := match d with
  | .tup ds => some ds
  | .fz ds => some ds
  | .loc n => match st[n]? with
    | some (.lst ds) => some ds
    | _ => none
  | _ => none
theorem seq_of {K : PySem.W.Frag} {M : List Addr} {H : Hp} {st : Sto} (a : At K P M H st) {d : D} {v : V} {ds : List D} (h : DV K M H d v) (e : seqD d st = some ds) : ∃ t vs, v = .ref t ∧ (SqL K H t vs ∨ SqT K H t vs) ∧ DVs K M H ds vs := by
  unfold seqD at e
  split at e
  · cases e
    obtain ⟨t, vs, rfl, h2, h3⟩ := dv_tup.mp h
    exact ⟨t, vs, rfl, .inr h2, h3⟩
  · cases e
    obtain ⟨t, vs, rfl, h2, h3⟩ := dv_fz.mp h
    exact ⟨t, vs, rfl, .inl h2.sq, h3⟩
  · obtain ⟨t, rfl, h2⟩ := dv_loc.mp h
    split at e
    · rename_i es e1
      cases e
      obtain ⟨t', vs, k1, k2, h3⟩ := a.lst e1
      rw [h2] at k1; cases k1
      exact ⟨t, vs, rfl, .inl (SqL.of k2), h3⟩
    · cases e
  · cases e
def listD : List D → Sto → OD
  | [d], st => (seqD d st).map fun ds => (.loc st.length, st ++ [.lst ds])
  | _, _ => none
theorem list_ok : CallR X (.type "list") (rDL X.K P listD) := by
  refine cr_imp call_list_of fun xs H Q h => ?_
  obtain ⟨M, st, ds, a, rd, p⟩ := h
  unfold listD at p
  split at p
  · rename_i d
    obtain ⟨v, rfl, h1⟩ := one_of rd
    cases e : seqD d st with
    | none => rw [e] at p; exact p.not.elim
    | some es =>
      rw [e] at p
      obtain ⟨t, vs, rfl, h2, h3⟩ := seq_of a h1 e
      exact ⟨t, vs, rfl, h2, fun l hl => p.lst rfl a h3 hl⟩
  · exact p.not.elim
def tupleD : List D → Sto → OD
  | [d], st => (seqD d st).map fun ds => (.tup ds, st)
  | _, _ => none
theorem tuple_ok : CallR X (.type "tuple") (rDL X.K P tupleD) := by
  refine cr_imp call_tuple_of fun xs H Q h => ?_
  obtain ⟨M, st, ds, a, rd, p⟩ := h
  unfold tupleD at p
  split at p
  · rename_i d
    obtain ⟨v, rfl, h1⟩ := one_of rd
    cases e : seqD d st with
    | none => rw [e] at p; exact p.not.elim
    | some es =>
      rw [e] at p
      obtain ⟨t, vs, rfl, h2, h3⟩ := seq_of a h1 e
      rcases h2 with h2 | h2
      · exact ⟨t, vs, rfl, .inl ⟨h2, fun l hl => p.tup rfl a h3 hl⟩⟩
      · exact ⟨t, vs, rfl, .inr ⟨h2, p.pure a (dv_tup.mpr ⟨t, vs, rfl, h2, h3⟩)⟩⟩
  · exact p.not.elim
def max2D : List D → Sto → OD
  | [.int i, .int j], st => some (.int (if j > i then j else i), st)
  | _, _ => none
def min2D : List D → Sto → OD
  | [.int i, .int j], st => some (.int (if j < i then j else i), st)
  | _, _ => none
theorem max2_ok (hc : X.calm = true) : CallR X (.builtin "max") (rDL X.K P max2D) := by
  refine cr_imp (call_max2 hc) fun xs H Q h => ?_
  obtain ⟨M, st, ds, a, rd, p⟩ := h
  unfold max2D at p
  split at p
  · obtain ⟨v, w, rfl, h1, h2⟩ := two_of rd
    rw [dv_int.mp h1, dv_int.mp h2]
    exact ⟨_, _, rfl, p.int a⟩
  · exact p.not.elim
theorem min2_ok (hc : X.calm = true) : CallR X (.builtin "min") (rDL X.K P min2D) := by
  refine cr_imp (call_min2 hc) fun xs H Q h => ?_
  obtain ⟨M, st, ds, a, rd, p⟩ := h
  unfold min2D at p
  split at p
  · obtain ⟨v, w, rfl, h1, h2⟩ := two_of rd
    rw [dv_int.mp h1, dv_int.mp h2]
    exact ⟨_, _, rfl, p.int a⟩
  · exact p.not.elim
/-! isinstance -/
inductive Ty where
  | int | bool | str | tup | lst | dct
  deriving DecidableEq
inductive Kd where
  | non | bl | int | str | tup | lst | dct
def tyN : Ty → String
  | .int => "int" | .bool => "bool" | .str => "str" | .tup => "tuple" | .lst => "list" | .dct => "dict"
def kdN : Kd → String
  | .non => "NoneType" | .bl => "bool" | .int => "int" | .str => "str" | .tup => "tuple" | .lst => "list" | .dct => "dict"
def kdIs : Kd → Ty → Bool
  | .bl, .bool => true | .bl, .int => true | .int, .int => true | .str, .str => true | .tup, .tup => true | .lst, .lst => true | .dct, .dct => true
  | _, _ => false
theorem kdIs_ok : ∀ (k : Kd) (t : Ty), kitB (kdN k) (tyN t) = some (kdIs k t) := by
  intro k t
  cases k <;> cases t <;> decide +kernel
def kdD (d : D) (st : Sto) : Option Kd := match d with
  | .non => some .non | .bl _ => some .bl | .int _ => some .int | .str _ => some .str | .tup _ => some .tup | .fz _ => some .lst
  | .loc n => match st[n]? with
    | some (.lst _) => some .lst
    | some (.dK _) => some .dct
    | some (.dT _) => some .dct
    | none => none
  | .exo _ => none
theorem kd_of {K : PySem.W.Frag} {M : List Addr} {H : Hp} {st : Sto} (a : At K P M H st) {d : D} {v : V} {k : Kd} (h : DV K M H d v) (e : kdD d st = some k) : TyX K H v (.type (kdN k)) := by
  cases d with
  | non => rw [dv_non.mp h]; cases e; exact .base .non
  | bl b => rw [dv_bl.mp h]; cases e; exact .base (.bl b)
  | int b => rw [dv_int.mp h]; cases e; exact .base (.int b)
  | str b => rw [dv_str.mp h]; cases e; exact .base (.str b)
  | tup ds =>
    obtain ⟨t, vs, rfl, h2, h3⟩ := dv_tup.mp h
    cases e
    rcases h2 with (h2 | ⟨o, h2⟩) | ⟨o, its, n, h2, h4, _⟩
    · exact .base (.tup h2)
    · exact .fTuple h2
    · exact .kTuple h2 h4
  | fz ds =>
    obtain ⟨t, vs, rfl, h2, h3⟩ := dv_fz.mp h
    cases e
    rcases h2 with ⟨o, h2⟩ | ⟨o, its, n, h2, h4, _⟩
    · exact .base (.frz h2)
    · exact .kList h2 h4
  | loc n =>
    obtain ⟨t, rfl, h2⟩ := dv_loc.mp h
    simp only [kdD] at e
    cases e1 : st[n]? with
    | none => rw [e1] at e; cases e
    | some ob =>
      rw [e1] at e
      obtain ⟨t', k1, k2⟩ := a.rel.ob n ob e1
      rw [h2] at k1; cases k1
      cases ob with
      | lst ds => cases e; obtain ⟨vs, h4, _⟩ := k2; exact .base (.lst h4)
      | dK ds => cases e; obtain ⟨vs, h4, _⟩ := k2; exact .base (.dK h4)
      | dT ds => cases e; obtain ⟨vs, h4, _⟩ := k2; exact .base (.dT h4)
  | exo k => cases e
def isiD (ts : List Ty) (d : D) (st : Sto) : OD := (kdD d st).map fun k => (.bl (ts.any (kdIs k)), st)
theorem q_isi {e : Expr} {x T : Str} {t : Ty} {Fa : Ev → Sto → Res D} {p p2 pos : Pos} (ha : PE X e (tE X.K P W Fa)) (hg : Gl X "isinstance") (hm : X.mg "isinstance" = none) (ht : PE X (.Name T p2) (tC (.ty (tyN t))))
    (he : starEach [e, .Name T p2] X.env = (false, eval e X.env) :: starEach [.Name T p2] X.env) :
    PE X (.Call (.Name "isinstance" p) [e, .Name T p2] [] pos) (tE X.K P W fun env st => (Fa env st).bind fun d s1 => ofO (isiD [t] d s1)) := by
  refine ⟨fun pins s σ H Q I h => (pe_callB call_isi hg hm boot_isinstance (pa_cons ha (pa_cons ht pa_nil) he) (by decide) (by decide) he).run pins s σ H Q I ?_⟩
  obtain ⟨M, env, st, sl, at_, q⟩ := h
  refine tG.go sl at_ q fun x H1 d M1 st1 s1 a1 sl1 r1 p1 => ?_
  have p1 := p1.toO
  unfold isiD at p1
  cases hk : kdD d st1 with
  | none => rw [hk] at p1; exact p1.not.elim
  | some k =>
    rw [hk] at p1
    refine ⟨x, .ty (tyN t), .type (kdN k), .type (tyN t), kdIs k t, rfl, .ty _, kd_of a1 r1 hk, kit_ty (kdIs_ok k t), ?_⟩
    have := p1.bl a1
    simpa using this

/-! ### methods of lists -/
def appD : D → List D → Sto → OD
  | .loc n, [d], st => match st[n]? with
    | some (.lst ds) => if ds.length ≤ 100000 then some (.non, st.set n (.lst (ds ++ [d]))) else none
    | _ => none
  | _, _, _ => none
def popD : D → List D → Sto → OD
  | .loc n, [], st => match st[n]? with
    | some (.lst ds) => (ds[ds.length - 1]?).map fun d => (d, st.set n (.lst ds.dropLast))
    | _ => none
  | _, _, _ => none
theorem PostO.set {K : PySem.W.Frag} {M : List Addr} {H : Hp} {st : Sto} {Q : VK} {n : Nat} {p : Addr} {o : HO} {ob : Ob} {d : D} {v : V} {r : OD} (h : PostO K P M H r Q) (e : r = some (d, st.set n ob)) (a : At K P M H st) (hm : M[n]? = some p)
    (q : ObV K M (upd H p o) p ob) (rv : DV K M H d v) : Q v (upd H p o) := by
  obtain ⟨d', st', e', k⟩ := h
  rw [e] at e'
  cases e'
  have ho : NT o := by
    obtain ⟨o1, e1, n1⟩ := q.nt
    rw [upd_same] at e1
    cases e1
    exact n1
  exact k v M _ (stp_set hm ho) (a.set hm q) (rv.mono a.mok (stp_set hm ho))
theorem DVs.dropLast {K : PySem.W.Frag} {M : List Addr} {H : Hp} {ds : List D} {vs : List V} (h : DVs K M H ds vs) : DVs K M H ds.dropLast vs.dropLast := by
  rw [List.dropLast_eq_take, List.dropLast_eq_take, h.length]
  exact h.take _
def isL (d : D) (st : Sto) : Bool := match d with
  | .loc n => match st[n]? with
    | some (.lst _) => true
    | _ => false
  | .fz _ => true
  | _ => false
theorem isL_of {K : PySem.W.Frag} {M : List Addr} {H : Hp} {st : Sto} (a : At K P M H st) {d : D} {v : V} (h : DV K M H d v) (e : isL d st = true) : tyV K "list" v H := by
  unfold isL at e
  split at e
  · obtain ⟨t, rfl, h2⟩ := dv_loc.mp h
    split at e
    · rename_i ds e1
      obtain ⟨t', vs, k1, k2, h3⟩ := a.lst e1
      rw [h2] at k1; cases k1
      exact .inl ⟨rfl, vs, SqL.of k2⟩
    · cases e
  · obtain ⟨t, vs, rfl, h2, h3⟩ := dv_fz.mp h
    exact .inl ⟨rfl, vs, h2.sq⟩
  · cases e
abbrev fMt (Fo : Ev → Sto → Res D) (G : Ev → Sto → Res (List D)) (f : D → List D → Sto → OD) : Ev → Sto → Res D := fun env st => (Fo env st).bind fun d s1 => if isL d s1 = true then (G env s1).bind fun ds s2 => ofO (f d ds s2) else .err
theorem q_lm {o e : Expr} {es : List Expr} {name : Str} {apos cpos : Pos} {id : String} {f : D → List D → Sto → OD} {r : V → List V → Hp → VK → Prop} {Fo : Ev → Sto → Res D} {G : Ev → Sto → Res (List D)} (slot : Slot "list" name id) (hty : typeOf (.builtin id) = pure (.type "method_descriptor"))
    (hm : MtR X id r) (hr : ∀ x xs H Q, rDM X.K P f x xs H Q → r x xs H Q) (ho : PE X o (tE X.K P W Fo)) (ha : PA X (e :: es) (tL X.K P W G))
    (hbase : attributeBase o name X.env (eval o X.env) = eval o X.env)
    (hfew : ((backTo cpos (starEach (e :: es) X.env)).all (fun x => !x.1) && (backToKw cpos (keywordEach [] X.env)).all (fun x => x.1.isSome) && decide ((e :: es).length + ([] : List Keyword).length + (if ([] : List Keyword).isEmpty then 0 else 1) < 30)) = true)
    (hline : (apos.endLine == cpos.line) = true) (hs : starEach (e :: es) X.env = (false, eval e X.env) :: starEach es X.env) (hplain : (backTo cpos (starEach es X.env)).any (·.1) = false) :
    PE X (.Call (.Attribute o name apos) (e :: es) [] cpos) (tE X.K P W (fMt Fo G f)) := by
  refine ⟨fun pins s σ H Q I h => (pe_bm PySem.F.plainAttrs_list slot hty hm ho ha hbase hfew hline hs hplain).run pins s σ H Q I ?_⟩
  obtain ⟨M, env, st, sl, at_, p⟩ := h
  refine tG.go sl at_ p fun x H1 d M1 st1 s1 a1 sl1 r1 p1 => ?_
  split at p1
  · rename_i hl
    exact ⟨isL_of a1 r1 hl, tG.go sl1 a1 p1 fun xs H2 ds M2 st2 s2 a2 sl2 r2 p2 => hr _ _ _ _ ⟨M2, st2, d, ds, a2, r1.mono a1.mok s2, r2, p2.toO⟩⟩
  · exact p1.elim
theorem q_lm0 {o : Expr} {name : Str} {apos cpos : Pos} {id : String} {f : D → List D → Sto → OD} {r : V → List V → Hp → VK → Prop} {Fo : Ev → Sto → Res D} (slot : Slot "list" name id) (hty : typeOf (.builtin id) = pure (.type "method_descriptor"))
    (hm : MtR X id r) (hr : ∀ x xs H Q, rDM X.K P f x xs H Q → r x xs H Q) (ho : PE X o (tE X.K P W Fo))
    (hbase : attributeBase o name X.env (eval o X.env) = eval o X.env) (hline : (apos.endLine == cpos.line) = true) :
    PE X (.Call (.Attribute o name apos) [] [] cpos) (tE X.K P W (fMt Fo (fun _ st => .ok [] st) f)) := by
  refine ⟨fun pins s σ H Q I h => (pe_bm0 PySem.F.plainAttrs_list slot hty hm ho hbase hline).run pins s σ H Q I ?_⟩
  obtain ⟨M, env, st, sl, at_, p⟩ := h
  refine tG.go sl at_ p fun x H1 d M1 st1 s1 a1 sl1 r1 p1 => ?_
  dsimp only at p1
  split at p1
  · rename_i hl
    exact ⟨isL_of a1 r1 hl, hr _ _ _ _ ⟨M1, st1, d, [], a1, r1, dvs_nil, Post.toO p1⟩⟩
  · exact p1.elim
theorem app_r {x : V} {xs : List V} {H : Hp} {Q : VK} (h : rDM X.K P appD x xs H Q) : rAppend x xs H Q := by
  obtain ⟨M, st, d, ds, a, r1, r2, p⟩ := h
  unfold appD at p
  split at p
  · rename_i n e
    obtain ⟨t, rfl, h1⟩ := dv_loc.mp r1
    obtain ⟨y, rfl, ry⟩ := one_of r2
    split at p
    · rename_i es e1
      obtain ⟨t', vs, k1, k2, h3⟩ := a.lst e1
      rw [h1] at k1; cases k1
      split at p
      · rename_i hl
        refine ⟨t, vs, y, rfl, rfl, k2, by rw [← h3.length, sizeLine_eq]; omega, p.set rfl a h1 (v := V.non) ⟨_, upd_same, ?_⟩ (dv_non.mpr rfl)⟩
        exact (h3.append (dvs_cons ry dvs_nil)).mono a.mok (stp_set h1 nt_lst)
      · exact p.not.elim
    · exact p.not.elim
  · exact p.not.elim
theorem pop_r {x : V} {xs : List V} {H : Hp} {Q : VK} (h : rDM X.K P popD x xs H Q) : rPop x xs H Q := by
  obtain ⟨M, st, d, ds, a, r1, r2, p⟩ := h
  unfold popD at p
  split at p
  · rename_i n
    obtain ⟨t, rfl, h1⟩ := dv_loc.mp r1
    rw [r2.nil_inv]
    split at p
    · rename_i es e1
      obtain ⟨t', vs, k1, k2, h3⟩ := a.lst e1
      rw [h1] at k1; cases k1
      cases e : es[es.length - 1]? with
      | none => rw [e] at p; exact p.not.elim
      | some w =>
        rw [e] at p
        obtain ⟨y, e2, ry⟩ := h3.get e
        rw [h3.length] at e2
        refine ⟨t, vs, y, rfl, rfl, k2, e2, p.set rfl a h1 ⟨_, upd_same, ?_⟩ ry⟩
        exact h3.dropLast.mono a.mok (stp_set h1 nt_lst)
    · exact p.not.elim
  · exact p.not.elim
end
end Q
end

section
set_option Elab.async false
set_option linter.all false
set_option maxRecDepth 100000
set_option maxHeartbeats 1000000
set_option autoImplicit false
/-! Statements, by data. -/
namespace Q
open PySem PySem.Spec PyProof.Rows L2

inductive SR where
  | nx (env : Ev) (st : Sto) | rt (d : D) (st : Sto) | bk (env : Ev) (st : Sto) | ct (env : Ev) (st : Sto) | exc (c : Nat) (d : D) (env : Ev) (st : Sto) | err
def SR.bind (r : SR) (f : Ev → Sto → SR) : SR := match r with
  | .nx env st => f env st
  | .rt d st => .rt d st
  | .bk env st => .bk env st
  | .ct env st => .ct env st
  | .exc c d env st => .exc c d env st
  | .err => .err
/-- an expression's result within a statement -/
def Res.then {α : Type} (r : Res α) (env : Ev) (f : α → Sto → SR) : SR := match r with
  | .ok a st => f a st
  | .exc c d st => .exc c d env st
  | .err => .err
section
variable {K : PySem.W.Frag} {P : Par} {W : WX} {M M1 : List Addr} {H H1 : Hp} {σ : L2.St} {env : Ev} {st : Sto} {De : Ends}
def PostS (K : PySem.W.Frag) (P : Par) (W : WX) (M : List Addr) (H : Hp) (r : SR) (De : Ends) : Prop := match r with
  | .nx env st => ∀ (σ' : L2.St) (M' : List Addr) (H' : Hp), Stp M H M' H' → At K P M' H' st → EvR K P M' H' σ' env → De.nx σ' H'
  | .bk env st => ∀ (σ' : L2.St) (M' : List Addr) (H' : Hp), Stp M H M' H' → At K P M' H' st → EvR K P M' H' σ' env → De.bk σ' H'
  | .ct env st => ∀ (σ' : L2.St) (M' : List Addr) (H' : Hp), Stp M H M' H' → At K P M' H' st → EvR K P M' H' σ' env → De.ct σ' H'
  | .rt d st => ∀ (v : V) (M' : List Addr) (H' : Hp), Stp M H M' H' → At K P M' H' st → DV K M' H' d v → De.rt v H'
  | .exc c d env st => ∀ (dd : Addr) (v : V) (σ' : L2.St) (M' : List Addr) (H' : Hp), Stp M H M' H' → At K P M' H' st → EvR K P M' H' σ' env → DV K M' H' d v → H' dd = some (.xd [(P.FN c, v)]) → W (.ref (P.CA c)) (some dd) σ' H'
  | .err => False
theorem PostS.step {r : SR} (s : Stp M H M1 H1) (h : PostS K P W M H r De) : PostS K P W M1 H1 r De := by
  cases r with
  | nx env st => exact fun σ' M' H' t a e => h σ' M' H' (s.trans t) a e
  | bk env st => exact fun σ' M' H' t a e => h σ' M' H' (s.trans t) a e
  | ct env st => exact fun σ' M' H' t a e => h σ' M' H' (s.trans t) a e
  | rt d st => exact fun v M' H' t a e => h v M' H' (s.trans t) a e
  | exc c d env st => exact fun dd v σ' M' H' t a e r x => h dd v σ' M' H' (s.trans t) a e r x
  | err => exact h
/-- a statement's reading -/
def tS (K : PySem.W.Frag) (P : Par) (W : WX) (F : Ev → Sto → SR) : TS := fun De σ H => ∃ (M : List Addr) (env : Ev) (st : Sto), EvR K P M H σ env ∧ At K P M H st ∧ PostS K P W M H (F env st) De
/-- an expression first -/
theorem tG.goS {γ δ : Type} {R' : List Addr → Hp → γ → δ → Prop} {F : Ev → Sto → Res γ} {G : γ → Sto → SR} {Q' : δ → Hp → Prop} (sl : EvR K P M H σ env) (a : At K P M H st) (h : PostS K P W M H ((F env st).then env G) De)
    (k : ∀ b H1 d M1 st1, Stp M H M1 H1 → At K P M1 H1 st1 → EvR K P M1 H1 σ env → R' M1 H1 d b → PostS K P W M1 H1 (G d st1) De → Q' b H1) : tG K P W R' F σ H Q' := by
  refine ⟨M, env, st, sl, a, ?_⟩
  cases e : F env st with
  | ok d st1 =>
    rw [e] at h
    exact fun b M' H' s1 a1 r1 => k b H' d M' st1 s1 a1 (sl.mono a.mok s1) r1 (PostS.step s1 h)
  | exc c d st1 =>
    rw [e] at h
    exact fun dd v M' H' s1 a1 r1 x => h dd v σ M' H' s1 a1 (sl.mono a.mok s1) r1 x
  | err => rw [e] at h; exact h.elim
/-- a statement first: what follows it -/
theorem PostS.seq {r : SR} {f : Ev → Sto → SR} (h : PostS K P W M H (r.bind f) De) : PostS K P W M H r { De with nx := tS K P W f De } := by
  cases r with
  | nx env st => exact fun σ' M' H' s a e => ⟨M', env, st, e, a, PostS.step s h⟩
  | bk env st => exact h
  | ct env st => exact h
  | rt d st => exact h
  | exc c d env st => exact h
  | err => exact h
end

section
variable {X : Cx} {P : Par} {W : WX} {st0 : Stmt} {rest : List Stmt} {e : Expr} {Fe : Ev → Sto → Res D} {F G : Ev → Sto → SR} {pos : Pos}
theorem q_snil : PSs X [] (tS X.K P W fun env st => .nx env st) := by
  refine ⟨fun pins s σ H De I h => pss_nil.run pins s σ H De I ?_⟩
  obtain ⟨M, env, st, sl, at_, p⟩ := h
  exact p σ M H (Stp.refl _ _) at_ sl
theorem q_scons (h1 : PS X st0 (tS X.K P W F)) (h2 : PSs X rest (tS X.K P W G)) : PSs X (st0 :: rest) (tS X.K P W fun env st => (F env st).bind G) := by
  refine ⟨fun pins s σ H De I h => (pss_cons h1 h2).run pins s σ H De I ?_⟩
  obtain ⟨M, env, st, sl, at_, p⟩ := h
  exact ⟨M, env, st, sl, at_, PostS.seq p⟩
theorem q_pass : PS X (.Pass pos) (tS X.K P W fun env st => .nx env st) := by
  refine ⟨fun pins s σ H De I h => ps_pass.run pins s σ H De I ?_⟩
  obtain ⟨M, env, st, sl, at_, p⟩ := h
  exact p σ M H (Stp.refl _ _) at_ sl
theorem q_break : PS X (.Break pos) (tS X.K P W fun env st => .bk env st) := by
  refine ⟨fun pins s σ H De I h => ps_break.run pins s σ H De I ?_⟩
  obtain ⟨M, env, st, sl, at_, p⟩ := h
  exact p σ M H (Stp.refl _ _) at_ sl
theorem q_cont : PS X (.Continue pos) (tS X.K P W fun env st => .ct env st) := by
  refine ⟨fun pins s σ H De I h => ps_continue.run pins s σ H De I ?_⟩
  obtain ⟨M, env, st, sl, at_, p⟩ := h
  exact p σ M H (Stp.refl _ _) at_ sl
theorem q_expr (he : PE X e (tE X.K P W Fe)) (hs : swapsWith e none pos.line X.env = pure false) : PS X (.Expr e pos) (tS X.K P W fun env st => (Fe env st).then env fun _ s1 => .nx env s1) := by
  refine ⟨fun pins s σ H De I h => (ps_expr he hs).run pins s σ H De I ?_⟩
  obtain ⟨M, env, st, sl, at_, p⟩ := h
  exact tG.goS sl at_ p fun x H1 d M1 st1 s1 a1 sl1 r1 p1 => p1 σ M1 H1 (Stp.refl _ _) a1 sl1
theorem q_ret (he : PE X e (tE X.K P W Fe)) : PS X (.Return (some e) pos) (tS X.K P W fun env st => (Fe env st).then env fun d s1 => .rt d s1) := by
  refine ⟨fun pins s σ H De I h => (ps_ret he).run pins s σ H De I ?_⟩
  obtain ⟨M, env, st, sl, at_, p⟩ := h
  exact tG.goS sl at_ p fun x H1 d M1 st1 s1 a1 sl1 r1 p1 => p1 x M1 H1 (Stp.refl _ _) a1 r1
theorem q_retN : PS X (.Return none pos) (tS X.K P W fun env st => .rt .non st) := by
  refine ⟨fun pins s σ H De I h => ps_retN.run pins s σ H De I ?_⟩
  obtain ⟨M, env, st, sl, at_, p⟩ := h
  exact p .non M H (Stp.refl _ _) at_ (dv_non.mpr rfl)
theorem q_sif {c : Expr} {a b : List Stmt} {Tc : Ev → Sto → Res Bool} (hc : PT X c (tT X.K P W Tc)) (ha : PSs X a (tS X.K P W F)) (hb : PSs X b (tS X.K P W G)) :
    PS X (.If c a b pos) (tS X.K P W fun env st => (Tc env st).then env fun k s1 => if k = true then F env s1 else G env s1) := by
  refine ⟨fun pins s σ H De I h => (ps_if hc ha hb).run pins s σ H De I ?_⟩
  obtain ⟨M, env, st, sl, at_, p⟩ := h
  refine tG.goS sl at_ p fun x H1 d M1 st1 s1 a1 sl1 r1 p1 => ?_
  subst r1
  cases d with
  | true => rw [if_pos rfl] at p1 ⊢; exact ⟨M1, env, st1, sl1, a1, p1⟩
  | false => rw [if_neg Bool.false_ne_true] at p1 ⊢; exact ⟨M1, env, st1, sl1, a1, p1⟩
theorem q_set {i : Nat} {x : Str} {pos' : Pos} (hN : X.N.Nodup) (hi : X.N[i]? = some x) (hx : Loc X.env.scope x) (he : PE X e (tE X.K P W Fe)) (hs : swapsWith e (some (.Name x pos')) pos.line X.env = pure false) (hf : X.fn x = true ∨ X.env.scope.names.lookup x = some .local) :
    PS X (.Assign [.Name x pos'] e pos) (tS X.K P W fun env st => (Fe env st).then env fun d s1 => .nx (env.set i (some d)) s1) := by
  refine ⟨fun pins s σ H De I h => (ps_set hN hi hx he hs hf).run pins s σ H De I ?_⟩
  obtain ⟨M, env, st, sl, at_, p⟩ := h
  exact tG.goS sl at_ p fun x H1 d M1 st1 s1 a1 sl1 r1 p1 => p1 (σ.set i (some x)) M1 H1 (Stp.refl _ _) a1 (sl1.set r1)

/-! ### targets -/
def PostP (K : PySem.W.Frag) (P : Par) (M : List Addr) (H : Hp) (st : Sto) (r : Option Ev) (Q : L2.St → Hp → Prop) : Prop := ∃ env', r = some env' ∧ ∀ (σ' : L2.St) (M' : List Addr) (H' : Hp), Stp M H M' H' → At K P M' H' st → EvR K P M' H' σ' env' → Q σ' H'
def tP (K : PySem.W.Frag) (P : Par) (g : D → Ev → Option Ev) : TG := fun v σ H Q => ∃ (M : List Addr) (env : Ev) (st : Sto) (d : D), EvR K P M H σ env ∧ At K P M H st ∧ DV K M H d v ∧ PostP K P M H st (g d env) Q
def tPs (K : PySem.W.Frag) (P : Par) (g : List D → Ev → Option Ev) : TGs := fun vs σ H Q => ∃ (M : List Addr) (env : Ev) (st : Sto) (ds : List D), EvR K P M H σ env ∧ At K P M H st ∧ DVs K M H ds vs ∧ PostP K P M H st (g ds env) Q
def gNm (i : Nat) : D → Ev → Option Ev := fun d env => some (env.set i (some d))
def gTp (gs : List D → Ev → Option Ev) (n : Nat) : D → Ev → Option Ev := fun d env => match d with
  | .tup ds => if ds.length = n then gs ds env else none
  | _ => none
def gsNil : List D → Ev → Option Ev := fun ds env => match ds with
  | [] => some env
  | _ => none
def gsCons (g : D → Ev → Option Ev) (gs : List D → Ev → Option Ev) : List D → Ev → Option Ev := fun ds env => match ds with
  | d :: ds => (g d env).bind (gs ds)
  | [] => none
theorem q_pgn {i : Nat} {x : Str} (hN : X.N.Nodup) (hi : X.N[i]? = some x) (hx : Loc X.env.scope x) (hf : X.fn x = true ∨ X.env.scope.names.lookup x = some .local) : PG X (.Name x pos) (tP X.K P (gNm i)) := by
  refine ⟨fun pins s σ H v u Q I r h => (pg_name hN hi hx hf).run pins s σ H v u Q I r ?_⟩
  obtain ⟨M, env, st, d, sl, at_, rd, env', e, k⟩ := h
  cases e
  exact k _ M H (Stp.refl _ _) at_ (sl.set rd)
theorem q_pgnil : PGs X [] (tPs X.K P gsNil) := by
  refine ⟨fun pins s σ H vs us Q I r h => pgs_nil.run pins s σ H vs us Q I r ?_⟩
  obtain ⟨M, env, st, ds, sl, at_, rd, env', e, k⟩ := h
  cases ds with
  | nil =>
    cases e
    exact ⟨rd.nil_inv, k _ M H (Stp.refl _ _) at_ sl⟩
  | cons _ _ => cases e
theorem q_pgcons {t : Expr} {ts : List Expr} {g : D → Ev → Option Ev} {gs : List D → Ev → Option Ev} (h1 : PG X t (tP X.K P g)) (h2 : PGs X ts (tPs X.K P gs))
    (hs : (assignEach (t :: ts) X.env).map (·.2) = assign t X.env :: (assignEach ts X.env).map (·.2)) : PGs X (t :: ts) (tPs X.K P (gsCons g gs)) := by
  refine ⟨fun pins s σ H vs us Q I r h => (pgs_cons h1 h2 hs).run pins s σ H vs us Q I r ?_⟩
  obtain ⟨M, env, st, ds, sl, at_, rd, env', e, k⟩ := h
  cases ds with
  | nil => cases e
  | cons d ds =>
    obtain ⟨v, vr, rfl, r1, r2⟩ := rd.cons_inv
    cases e1 : g d env with
    | none => simp only [gsCons, e1, Option.bind_none] at e; cases e
    | some env1 =>
      simp only [gsCons, e1, Option.bind_some] at e
      exact ⟨v, vr, rfl, M, env, st, d, sl, at_, r1, env1, e1, fun σ' M' H' s1 a1 sl1 => ⟨M', env1, st, ds, sl1, a1, r2.mono at_.mok s1, env', e, fun σ2 M2 H2 s2 a2 sl2 => k σ2 M2 H2 (s1.trans s2) a2 sl2⟩⟩
theorem q_pgtup {ts : List Expr} {k n : Nat} {gs : List D → Ev → Option Ev} (hc : X.calm = true) (h : PGs X ts (tPs X.K P gs)) (hn : (assignEach ts X.env).length = n) (hst : (assignEach ts X.env).findIdx? (·.1) = none) : PG X (.Tuple ts k pos) (tP X.K P (gTp gs n)) := by
  refine ⟨fun pins s σ H v u Q I r hh => (pg_tup hc h hn hst).run pins s σ H v u Q I r ?_⟩
  obtain ⟨M, env, st, d, sl, at_, rd, env', e, kk⟩ := hh
  cases d with
  | tup ds =>
    simp only [gTp] at e
    split at e
    · rename_i hl
      obtain ⟨a, vs, rfl, h1, h2⟩ := dv_tup.mp rd
      exact ⟨a, vs, rfl, h1, by rw [← h2.length]; exact hl, M, env, st, ds, sl, at_, h2, env', e, kk⟩
    · cases e
  | _ => cases e
def ofEv (r : Option Ev) (st : Sto) : SR := match r with
  | some env => .nx env st
  | none => .err
theorem q_asg {tg : Expr} {g : D → Ev → Option Ev} (he : PE X e (tE X.K P W Fe)) (hg : PG X tg (tP X.K P g)) (hs : swapsWithSole [tg] e pos.line X.env = pure false) (hw : swappedStores [tg] e X.env = pure none) (h1 : (assignEach [tg] X.env).map (·.2) = [assign tg X.env]) :
    PS X (.Assign [tg] e pos) (tS X.K P W fun env st => (Fe env st).then env fun d s1 => ofEv (g d env) s1) := by
  refine ⟨fun pins s σ H De I h => (ps_asg he hg hs hw h1).run pins s σ H De I ?_⟩
  obtain ⟨M, env, st, sl, at_, p⟩ := h
  refine tG.goS sl at_ p fun x H1 d M1 st1 s1 a1 sl1 r1 p1 => ?_
  cases e1 : g d env with
  | none => rw [e1] at p1; exact p1.elim
  | some env1 =>
    rw [e1] at p1
    exact ⟨M1, env, st1, d, sl1, a1, r1, env1, e1, p1⟩
/-- a, b = x, y -/
theorem q_par2 {i j : Nat} {x y : Str} {a b : Expr} {G : Ev → Sto → Res (List D)} {px py pt : Pos} {kt k2 : Nat} {pt2 : Pos} (hc : X.calm = true) (hN : X.N.Nodup) (hi : X.N[i]? = some x) (hj : X.N[j]? = some y) (hij : i ≠ j)
    (hx : X.env.scope.names.lookup x = some .local) (hy : X.env.scope.names.lookup y = some .local) (ha : PA X [a, b] (tL X.K P W G))
    (hw : swappedStores [.Tuple [.Name x px, .Name y py] kt pt] (.Tuple [a, b] k2 pt2) X.env = pure (some [x, y])) (hs : swapsWithSole [.Tuple [.Name x px, .Name y py] kt pt] (.Tuple [a, b] k2 pt2) pos.line X.env = pure false) :
    PS X (.Assign [.Tuple [.Name x px, .Name y py] kt pt] (.Tuple [a, b] k2 pt2) pos) (tS X.K P W fun env st => (G env st).then env fun ds s1 => match ds with
      | [d, e] => .nx ((env.set i (some d)).set j (some e)) s1
      | _ => .err) := by
  refine ⟨fun pins s σ H De I h => (ps_par hc hN hi hj hij hx hy ha hw hs).run pins s σ H De I ?_⟩
  obtain ⟨M, env, st, sl, at_, p⟩ := h
  refine tG.goS sl at_ p fun xs H1 ds M1 st1 s1 a1 sl1 r1 p1 => ?_
  split at p1
  · obtain ⟨v, w, rfl, h1, h2⟩ := two_of r1
    exact ⟨v, w, rfl, p1 _ M1 H1 (Stp.refl _ _) a1 ((sl1.set h1).set h2)⟩
  · exact p1.elim
theorem three_of {K : PySem.W.Frag} {M : List Addr} {H : Hp} {d e f : D} {xs : List V} (h : DVs K M H [d, e, f] xs) : ∃ u v w, xs = [u, v, w] ∧ DV K M H d u ∧ DV K M H e v ∧ DV K M H f w := by
  obtain ⟨v, vr, rfl, h1, h2⟩ := h.cons_inv
  obtain ⟨w, z, rfl, h3, h4⟩ := two_of h2
  exact ⟨v, w, z, rfl, h1, h3, h4⟩
theorem q_par3 {i j l : Nat} {x y z : Str} {a b c : Expr} {G : Ev → Sto → Res (List D)} {px py pz pt : Pos} {kt k2 : Nat} {pt2 : Pos} (hc : X.calm = true) (hN : X.N.Nodup) (hi : X.N[i]? = some x) (hj : X.N[j]? = some y) (hl : X.N[l]? = some z) (hij : i ≠ j) (hil : i ≠ l) (hjl : j ≠ l)
    (hx : X.env.scope.names.lookup x = some .local) (hy : X.env.scope.names.lookup y = some .local) (hz : X.env.scope.names.lookup z = some .local) (ha : PA X [a, b, c] (tL X.K P W G))
    (hw : swappedStores [.Tuple [.Name x px, .Name y py, .Name z pz] kt pt] (.Tuple [a, b, c] k2 pt2) X.env = pure (some [x, y, z])) (hs : swapsWithSole [.Tuple [.Name x px, .Name y py, .Name z pz] kt pt] (.Tuple [a, b, c] k2 pt2) pos.line X.env = pure false) :
    PS X (.Assign [.Tuple [.Name x px, .Name y py, .Name z pz] kt pt] (.Tuple [a, b, c] k2 pt2) pos) (tS X.K P W fun env st => (G env st).then env fun ds s1 => match ds with
      | [d, e, f] => .nx (((env.set i (some d)).set j (some e)).set l (some f)) s1
      | _ => .err) := by
  refine ⟨fun pins s σ H De I h => (ps_par3 hc hN hi hj hl hij hil hjl hx hy hz ha hw hs).run pins s σ H De I ?_⟩
  obtain ⟨M, env, st, sl, at_, p⟩ := h
  refine tG.goS sl at_ p fun xs H1 ds M1 st1 s1 a1 sl1 r1 p1 => ?_
  split at p1
  · obtain ⟨u, v, w, rfl, h1, h2, h3⟩ := three_of r1
    exact ⟨u, v, w, rfl, p1 _ M1 H1 (Stp.refl _ _) a1 (((sl1.set h1).set h2).set h3)⟩
  · exact p1.elim

/-! ### what is walked -/
structure ItD where
  n : Nat
  item : Nat → Sto → Option D
  fin : Sto → Bool
def ItOk (K : PySem.W.Frag) (P : Par) (M0 : List Addr) (H0 : Hp) (it : ItD) (J : It) : Prop := ∀ (i : Nat) (M : List Addr) (H : Hp) (st : Sto), Stp M0 H0 M H → At K P M H st →
  (∀ d, i < it.n → it.item i st = some d → J.go i H ∧ ∀ x H', J.yld i H x H' → ∃ M', Stp M H M' H' ∧ At K P M' H' st ∧ DV K M' H' d x) ∧ (it.n ≤ i → it.fin st = true → J.stop i H)
abbrev tI (K : PySem.W.Frag) (P : Par) (W : WX) (F : Ev → Sto → Res ItD) : TI := tG K P W (ItOk K P) F
def loopS (it : ItD) (g : D → Ev → Option Ev) (body : Ev → Sto → SR) : Nat → Nat → Ev → Sto → SR
  | 0, _, env, st => if it.fin st = true then .nx env st else .err
  | k + 1, i, env, st => match it.item i st with
    | none => .err
    | some d => match g d env with
      | none => .err
      | some env1 => match body env1 st with
        | .nx e s => loopS it g body k (i + 1) e s
        | .ct e s => loopS it g body k (i + 1) e s
        | .bk e s => .nx e s
        | r => r
theorem q_for {tg iter : Expr} {body : List Stmt} {Fi : Ev → Sto → Res ItD} {g : D → Ev → Option Ev} {Fb : Ev → Sto → SR} (hp : PassesOwn (model X.prog X.w) X.A X.env X.xe) (hc : X.calm = true) (hi : PI X tg iter (tI X.K P W Fi)) (hg : PG X tg (tP X.K P g)) (hb : PSs X body (tS X.K P W Fb))
    (hs : ∀ x, foldedSetIterable iter X.env x = pure x) : PS X (.For tg iter body [] pos) (tS X.K P W fun env st => (Fi env st).then env fun it s1 => loopS it g Fb it.n 0 env s1) := by
  refine ⟨fun pins s σ H De I h => (ps_for hp hc hi hg hb hs).run pins s σ H De I ?_⟩
  obtain ⟨M, env, st, sl, at_, p⟩ := h
  refine tG.goS sl at_ p fun J H1 it M1 st1 s1 a1 sl1 r1 p1 => ?_
  refine ⟨fun i m σ H => m = it.n - i ∧ i ≤ it.n ∧ ∃ M env st, Stp M1 H1 M H ∧ EvR X.K P M H σ env ∧ At X.K P M H st ∧ PostS X.K P W M H (loopS it g Fb (it.n - i) i env st) De, ⟨it.n, rfl, Nat.zero_le _, M1, env, st1, Stp.refl _ _, sl1, a1, p1⟩, ?_⟩
  rintro i m σ2 H2 ⟨rfl, hle, M2, env2, st2, s2, sl2, a2, p2⟩
  have ok := r1 i M2 H2 st2 s2 a2
  by_cases hlt : i < it.n
  · refine .inr ?_
    obtain ⟨k, hk⟩ : ∃ k, it.n - i = k + 1 := ⟨it.n - i - 1, by omega⟩
    rw [hk, loopS] at p2
    cases e1 : it.item i st2 with
    | none => rw [e1] at p2; exact p2.elim
    | some d =>
      rw [e1] at p2
      dsimp only at p2
      cases e2 : g d env2 with
      | none => rw [e2] at p2; exact p2.elim
      | some env3 =>
        rw [e2] at p2
        dsimp only at p2
        obtain ⟨go, yl⟩ := ok.1 d hlt e1
        have hk2 : k = it.n - (i + 1) := by omega
        refine ⟨go, fun σ' H' => i + 1 ≤ it.n ∧ ∃ M env st, Stp M1 H1 M H' ∧ EvR X.K P M H' σ' env ∧ At X.K P M H' st ∧ PostS X.K P W M H' (loopS it g Fb (it.n - (i + 1)) (i + 1) env st) De, fun σ' H' hn => ⟨it.n - (i + 1), by omega, rfl, hn⟩, fun x H' y => ?_⟩
        obtain ⟨M3, s3, a3, r3⟩ := yl x H' y
        have sl3 := sl2.mono a2.mok s3
        refine ⟨M3, env2, st2, d, sl3, a3, r3, env3, e2, fun σ4 M4 H4 s4 a4 sl4 => ⟨M4, env3, st2, sl4, a4, ?_⟩⟩
        have s14 : Stp M1 H1 M4 H4 := (s2.trans s3).trans s4
        have p4 := PostS.step (s3.trans s4) p2
        cases e3 : Fb env3 st2 with
        | nx e s =>
          rw [e3] at p4
          dsimp only at p4
          rw [hk2] at p4
          exact fun σ' M' H' s' a' sl' => ⟨hlt, M', e, s, s14.trans s', sl', a', PostS.step s' p4⟩
        | ct e s =>
          rw [e3] at p4
          dsimp only at p4
          rw [hk2] at p4
          exact fun σ' M' H' s' a' sl' => ⟨hlt, M', e, s, s14.trans s', sl', a', PostS.step s' p4⟩
        | bk e s => rw [e3] at p4; exact p4
        | rt d' s => rw [e3] at p4; exact p4
        | exc c d' e s => rw [e3] at p4; exact p4
        | err => rw [e3] at p4; exact p4.elim
  · have e0 : it.n - i = 0 := by omega
    rw [e0, loopS] at p2
    split at p2
    · rename_i hf
      exact .inl ⟨ok.2 (by omega) hf, p2 σ2 M2 H2 (Stp.refl _ _) a2 sl2⟩
    · exact p2.elim
def whileS (c : Ev → Sto → Res Bool) (body : Ev → Sto → SR) : Nat → Ev → Sto → SR
  | 0, _, _ => .err
  | k + 1, env, st => (c env st).then env fun b s1 => if b = true then (match body env s1 with
      | .nx e s => whileS c body k e s
      | .ct e s => whileS c body k e s
      | .bk e s => .nx e s
      | r => r) else .nx env s1
theorem q_while {c : Expr} {body : List Stmt} {Tc : Ev → Sto → Res Bool} {Fb : Ev → Sto → SR} (n : Nat) (hp : PassesOwn (model X.prog X.w) X.A X.env X.xe) (hc : PT X c (tT X.K P W Tc)) (hb : PSs X body (tS X.K P W Fb)) : PS X (.While c body [] pos) (tS X.K P W (whileS Tc Fb n)) := by
  refine ⟨fun pins s σ H De I h => (ps_while hp hc hb).run pins s σ H De I ?_⟩
  refine ⟨fun m σ H => tS X.K P W (whileS Tc Fb m) De σ H, ⟨n, h⟩, fun m σ H hh => ?_⟩
  obtain ⟨M, env, st, sl, at_, p⟩ := hh
  cases m with
  | zero => exact p.elim
  | succ m =>
    rw [whileS] at p
    refine tG.goS sl at_ p fun b H1 d M1 st1 s1 a1 sl1 r1 p1 => ?_
    subst r1
    cases d with
    | false => rw [if_neg Bool.false_ne_true] at p1 ⊢; exact p1 σ M1 H1 (Stp.refl _ _) a1 sl1
    | true =>
      rw [if_pos rfl] at p1 ⊢
      refine ⟨tS X.K P W (whileS Tc Fb m) De, fun σ' H' hn => ⟨m, Nat.lt_succ_self _, hn⟩, M1, env, st1, sl1, a1, ?_⟩
      cases e3 : Fb env st1 with
      | nx e s => rw [e3] at p1; exact fun σ' M' H' s' a' sl' => ⟨M', e, s, sl', a', PostS.step s' p1⟩
      | ct e s => rw [e3] at p1; exact fun σ' M' H' s' a' sl' => ⟨M', e, s, sl', a', PostS.step s' p1⟩
      | bk e s => rw [e3] at p1; exact p1
      | rt d' s => rw [e3] at p1; exact p1
      | exc c d' e s => rw [e3] at p1; exact p1
      | err => rw [e3] at p1; exact p1.elim
end
end Q
end

section
set_option Elab.async false
set_option linter.all false
set_option maxRecDepth 100000
set_option maxHeartbeats 1000000
set_option autoImplicit false
/-! What loops walk, by data. -/
namespace Q
open PySem PySem.Spec PyProof.Rows L2
section
variable {K : PySem.W.Frag} {P : Par} {M M0 : List Addr} {H H0 : Hp} {st : Sto}
def itTup (ds : List D) : ItD := ⟨ds.length, fun i _ => ds[i]?, fun _ => true⟩
def lenAt (n : Nat) (st : Sto) : Option (List D) := match st[n]? with
  | some (.lst ds) => some ds
  | _ => none
def itLoc (n k : Nat) : ItD := ⟨k, fun i st => (lenAt n st).bind fun ds => ds[i]?, fun st => match lenAt n st with
  | some ds => ds.length ≤ k
  | none => false⟩
def itStr (x : Str) : ItD := ⟨x.cps.size, fun i _ => x.cps[i]?.map fun c => .str ⟨#[c]⟩, fun _ => true⟩
def itRng (lo c : Int) (n : Nat) : ItD := ⟨n, fun i _ => some (.int (lo + (i : Nat) * c)), fun _ => true⟩
theorem lenAt_of {n : Nat} {ds : List D} (h : lenAt n st = some ds) : st[n]? = some (.lst ds) := by
  unfold lenAt at h
  split at h
  · rename_i e; cases h; exact e
  · cases h
theorem it_tup {a : Addr} {vs : List V} {ds : List D} (m : MOk M0 H0) (q : SqT K H0 a vs) (r : DVs K M0 H0 ds vs) : ItOk K P M0 H0 (itTup ds) (Itt K a) := fun i M H st s at_ => by
  have q1 := sqT_mono m s q
  have r1 := r.mono m s
  refine ⟨fun d hi e => ?_, fun hle _ => ⟨vs, q1, by rw [← r1.length]; exact hle⟩⟩
  obtain ⟨v, e1, r2⟩ := r1.get (show ds[i]? = some d from e)
  refine ⟨⟨vs, v, q1, e1⟩, fun x H' y => ?_⟩
  obtain ⟨rfl, h⟩ := y
  have h2 := h vs q1
  rw [e1] at h2
  cases h2
  exact ⟨M, Stp.refl _ _, at_, r2⟩
theorem it_fz {a : Addr} {vs : List V} {ds : List D} (m : MOk M0 H0) (q : SqF K H0 a vs) (r : DVs K M0 H0 ds vs) : ItOk K P M0 H0 (itTup ds) (Itl K a) := fun i M H st s at_ => by
  have q1 := sqF_mono m s q
  have r1 := r.mono m s
  refine ⟨fun d hi e => ?_, fun hle _ => ⟨vs, q1.sq, by rw [← r1.length]; exact hle⟩⟩
  obtain ⟨v, e1, r2⟩ := r1.get (show ds[i]? = some d from e)
  refine ⟨⟨vs, v, q1.sq, e1⟩, fun x H' y => ?_⟩
  obtain ⟨rfl, h⟩ := y
  have h2 := h vs q1.sq
  rw [e1] at h2
  cases h2
  exact ⟨M, Stp.refl _ _, at_, r2⟩
theorem it_loc {a : Addr} {n k : Nat} (q : M0[n]? = some a) : ItOk K P M0 H0 (itLoc n k) (Itl K a) := fun i M H st s at_ => by
  have q1 := s.get q
  refine ⟨fun d hi e => ?_, fun hle hf => ?_⟩
  · have e' : (lenAt n st).bind (fun ds => ds[i]?) = some d := e
    cases hl : lenAt n st with
    | none => rw [hl] at e'; cases e'
    | some ds =>
      rw [hl, Option.bind_some] at e'
      obtain ⟨p, vs, h1, h2, r1⟩ := at_.lst (lenAt_of hl)
      rw [q1] at h1
      cases h1
      obtain ⟨v, e1, r2⟩ := r1.get e'
      refine ⟨⟨vs, v, SqL.of h2, e1⟩, fun x H' y => ?_⟩
      obtain ⟨rfl, h⟩ := y
      have h3 := h vs (SqL.of h2)
      rw [e1] at h3
      cases h3
      exact ⟨M, Stp.refl _ _, at_, r2⟩
  · have hf' : (match lenAt n st with | some ds => decide (ds.length ≤ k) | none => false) = true := hf
    cases hl : lenAt n st with
    | none => rw [hl] at hf'; cases hf'
    | some ds =>
      rw [hl] at hf'
      obtain ⟨p, vs, h1, h2, r1⟩ := at_.lst (lenAt_of hl)
      rw [q1] at h1
      cases h1
      exact ⟨vs, SqL.of h2, by rw [← r1.length]; exact Nat.le_trans (of_decide_eq_true hf') hle⟩
theorem it_str {x : Str} : ItOk K P M0 H0 (itStr x) (Its x) := fun i M H st s at_ => by
  refine ⟨fun d hi e => ⟨hi, fun v H' y => ?_⟩, fun hle _ => hle⟩
  obtain ⟨rfl, c, hc, rfl⟩ := y
  have e' : x.cps[i]?.map (fun c => D.str ⟨#[c]⟩) = some d := e
  rw [hc] at e'
  cases e'
  exact ⟨M, Stp.refl _ _, at_, dv_str.mpr rfl⟩
theorem it_rng {lo : Int} {n : Nat} : ItOk K P M0 H0 (itRng lo 1 n) (Itr lo n) := fun i M H st s at_ => by
  refine ⟨fun d hi e => ⟨hi, fun v H' y => ?_⟩, fun hle _ => hle⟩
  obtain ⟨rfl, rfl⟩ := y
  cases e
  exact ⟨M, Stp.refl _ _, at_, dv_int.mpr (by rw [Int.mul_one])⟩
theorem it_rngC {lo c : Int} {n : Nat} : ItOk K P M0 H0 (itRng lo c n) (Itc lo c n) := fun i M H st s at_ => by
  refine ⟨fun d hi e => ⟨hi, fun v H' y => ?_⟩, fun hle _ => hle⟩
  obtain ⟨rfl, rfl⟩ := y
  cases e
  exact ⟨M, Stp.refl _ _, at_, dv_int.mpr rfl⟩
end

/-- what is walked when a value is -/
def itD (d : D) (st : Sto) : Res ItD := match d with
  | .tup ds => .ok (itTup ds) st
  | .fz ds => .ok (itTup ds) st
  | .loc n => match lenAt n st with
    | some ds => .ok (itLoc n ds.length) st
    | none => .err
  | .str x => .ok (itStr x) st
  | _ => .err
section
variable {X : Cx} {P : Par} {W : WX} {tg e : Expr} {Fe : Ev → Sto → Res D} {pos p : Pos}
theorem pi_or {t1 t2 : TI} (h1 : PI X tg e t1) (h2 : PI X tg e t2) : PI X tg e (fun σ H R => t1 σ H R ∨ t2 σ H R) :=
  ⟨fun pins s σ H R I h => h.elim (h1.run pins s σ H R I) (h2.run pins s σ H R I)⟩
theorem pi_imp {t1 t2 : TI} (h1 : PI X tg e t1) (k : ∀ σ H R, t2 σ H R → t1 σ H R) : PI X tg e t2 := ⟨fun pins s σ H R I h => h1.run pins s σ H R I (k σ H R h)⟩
theorem q_itv (he : PE X e (tE X.K P W Fe)) : PI X tg e (tI X.K P W fun env st => (Fe env st).bind itD) := by
  refine pi_imp (pi_or (pi_tup he) (pi_or (pi_list he) (pi_str he))) fun σ H R h => ?_
  obtain ⟨M, env, st, sl, at_, p⟩ := h
  dsimp only at p
  cases e1 : Fe env st with
  | err => rw [e1] at p; exact p.elim
  | exc c d s1 =>
    rw [e1] at p
    exact .inl ⟨M, env, st, sl, at_, by rw [e1]; exact p⟩
  | ok d s1 =>
    rw [e1] at p
    have p : Post X.K P M H (ItOk X.K P) (fun c d H' => W c d σ H') (itD d s1) R := p
    cases d with
    | tup ds =>
      refine .inl ⟨M, env, st, sl, at_, ?_⟩
      rw [e1]
      intro b M' H' s a r
      obtain ⟨q, vs, rfl, h1, h2⟩ := dv_tup.mp r
      exact ⟨q, rfl, ⟨vs, h1⟩, p _ M' H' s a (it_tup a.mok h1 h2)⟩
    | fz ds =>
      refine .inr (.inl ⟨M, env, st, sl, at_, ?_⟩)
      rw [e1]
      intro b M' H' s a r
      obtain ⟨q, vs, rfl, h1, h2⟩ := dv_fz.mp r
      exact ⟨q, rfl, ⟨vs, h1.sq⟩, p _ M' H' s a (it_fz a.mok h1 h2)⟩
    | str x =>
      refine .inr (.inr ⟨M, env, st, sl, at_, ?_⟩)
      rw [e1]
      intro b M' H' s a r
      cases dv_str.mp r
      exact ⟨x, rfl, p _ M' H' s a it_str⟩
    | loc n =>
      refine .inr (.inl ⟨M, env, st, sl, at_, ?_⟩)
      rw [e1]
      intro b M' H' s a r
      obtain ⟨q, rfl, hm⟩ := dv_loc.mp r
      simp only [itD] at p
      split at p
      · rename_i ds hl
        obtain ⟨q', vs, h1, h2, r1⟩ := a.lst (lenAt_of hl)
        rw [hm] at h1
        cases h1
        exact ⟨q, rfl, ⟨vs, SqL.of h2⟩, p _ M' H' s a (it_loc hm)⟩
      · exact p.elim
    | _ => exact p.elim
def smI (i : Int) : Bool := -(2 ^ 62) ≤ i && i < 2 ^ 62
theorem smI_of {i : Int} (h : smI i = true) : -(2 ^ 62) ≤ i ∧ i < 2 ^ 62 := by
  unfold smI at h
  rw [Bool.and_eq_true] at h
  exact ⟨of_decide_eq_true h.1, of_decide_eq_true h.2⟩
def rng1 (ds : List D) (st : Sto) : Res ItD := match ds with
  | [.int j] => if smI j = true then .ok (itRng 0 1 j.toNat) st else .err
  | _ => .err
def rng2 (ds : List D) (st : Sto) : Res ItD := match ds with
  | [.int i, .int j] => if smI i = true ∧ smI j = true then .ok (itRng i 1 (j - i).toNat) st else .err
  | _ => .err
def rng3 (ds : List D) (st : Sto) : Res ItD := match ds with
  | [.int i, .int j, .int c] => if smI i = true ∧ smI j = true ∧ c = -1 then .ok (itRng i (-1) (i - j).toNat) st else .err
  | _ => .err
theorem q_rng1 {a : Expr} {G : Ev → Sto → Res (List D)} (hg : Gl X "range") (hm : X.mg "range" = none) (ha : PA X [a] (tL X.K P W G)) (hs : starEach [a] X.env = [(false, eval a X.env)]) :
    PI X tg (.Call (.Name "range" p) [a] [] pos) (tI X.K P W fun env st => (G env st).bind rng1) := by
  refine pi_imp (pi_range1 hg hm ha hs) fun σ H R h => ?_
  obtain ⟨M, env, st, sl, at_, p⟩ := h
  refine tG.go sl at_ p fun xs H1 ds M1 st1 s1 a1 sl1 r1 p1 => ?_
  unfold rng1 at p1
  split at p1
  · rename_i j
    split at p1
    · rename_i hj
      obtain ⟨v, rfl, h1⟩ := one_of r1
      cases dv_int.mp h1
      obtain ⟨b1, b2⟩ := smI_of hj
      exact ⟨j, rfl, b1, b2, p1 _ M1 H1 (Stp.refl _ _) a1 it_rng⟩
    · exact p1.elim
  · exact p1.elim
theorem q_rng2 {a b : Expr} {G : Ev → Sto → Res (List D)} (hg : Gl X "range") (hm : X.mg "range" = none) (ha : PA X [a, b] (tL X.K P W G)) (hs : starEach [a, b] X.env = [(false, eval a X.env), (false, eval b X.env)]) (hs2 : starEach [b] X.env = [(false, eval b X.env)]) :
    PI X tg (.Call (.Name "range" p) [a, b] [] pos) (tI X.K P W fun env st => (G env st).bind rng2) := by
  refine pi_imp (pi_range2 hg hm ha hs hs2) fun σ H R h => ?_
  obtain ⟨M, env, st, sl, at_, p⟩ := h
  refine tG.go sl at_ p fun xs H1 ds M1 st1 s1 a1 sl1 r1 p1 => ?_
  unfold rng2 at p1
  split at p1
  · rename_i i j
    split at p1
    · rename_i hj
      obtain ⟨v, w, rfl, h1, h2⟩ := two_of r1
      cases dv_int.mp h1
      cases dv_int.mp h2
      obtain ⟨b1, b2⟩ := smI_of hj.1
      obtain ⟨b3, b4⟩ := smI_of hj.2
      exact ⟨i, j, rfl, ⟨b1, b2, b3, b4⟩, p1 _ M1 H1 (Stp.refl _ _) a1 it_rng⟩
    · exact p1.elim
  · exact p1.elim
theorem q_rng3 {a b c : Expr} {G : Ev → Sto → Res (List D)} (hg : Gl X "range") (hm : X.mg "range" = none) (ha : PA X [a, b, c] (tL X.K P W G)) (hs : starEach [a, b, c] X.env = (false, eval a X.env) :: starEach [b, c] X.env) (hpl : (backTo pos (starEach [b, c] X.env)).any (·.1) = false) :
    PI X tg (.Call (.Name "range" p) [a, b, c] [] pos) (tI X.K P W fun env st => (G env st).bind rng3) := by
  refine pi_imp (pi_range3 hg hm ha hs hpl) fun σ H R h => ?_
  obtain ⟨M, env, st, sl, at_, p⟩ := h
  refine tG.go sl at_ p fun xs H1 ds M1 st1 s1 a1 sl1 r1 p1 => ?_
  unfold rng3 at p1
  split at p1
  · rename_i i j c
    split at p1
    · rename_i hj
      obtain ⟨hj1, hj2, rfl⟩ := hj
      obtain ⟨u, v, w, rfl, h1, h2, h3⟩ := three_of r1
      cases dv_int.mp h1
      cases dv_int.mp h2
      cases dv_int.mp h3
      obtain ⟨b1, b2⟩ := smI_of hj1
      obtain ⟨b3, b4⟩ := smI_of hj2
      exact ⟨i, j, -1, _, rfl, RgC.neg b1 b2 b3 b4, p1 _ M1 H1 (Stp.refl _ _) a1 it_rngC⟩
    · exact p1.elim
  · exact p1.elim
/-- reversed(range(a)) -/
def rev1 (d : D) (st : Sto) : Res ItD := match d with
  | .int j => if smI j = true then .ok (itRng ((j.toNat : Int) - 1) (-1) j.toNat) st else .err
  | _ => .err
theorem q_rev1 {a : Expr} {Fa : Ev → Sto → Res D} {p1 pos1 : Pos} (hgr : Gl X "reversed") (hmr : X.mg "reversed" = none) (hg : Gl X "range") (hm : X.mg "range" = none) (ha : PE X a (tE X.K P W Fa)) (na : starEach [a] X.env = (false, eval a X.env) :: starEach [] X.env)
    (hs : starEach [.Call (.Name "range" p1) [a] [] pos1] X.env = (false, eval (.Call (.Name "range" p1) [a] [] pos1) X.env) :: starEach [] X.env) :
    PI X tg (.Call (.Name "reversed" p) [.Call (.Name "range" p1) [a] [] pos1] [] pos) (tI X.K P W fun env st => (Fa env st).bind rev1) := by
  refine pi_imp (pi_revR hgr hmr (prg_1 hg hm ha na) hs) fun σ H R h => ?_
  obtain ⟨M, env, st, sl, at_, p⟩ := h
  refine tG.go sl at_ p fun x H1 d M1 st1 s1 a1 sl1 r1 p1 => ?_
  unfold rev1 at p1
  split at p1
  · rename_i j
    split at p1
    · rename_i hj
      cases dv_int.mp r1
      obtain ⟨b1, b2⟩ := smI_of hj
      refine ⟨j, rfl, by decide, by decide, b1, b2, ?_⟩
      have e : (0 : Int) + (((j - 0).toNat : Nat) : Int) - 1 = (j.toNat : Int) - 1 := by simp
      rw [e, Int.sub_zero]
      exact p1 _ M1 H1 (Stp.refl _ _) a1 it_rngC
    · exact p1.elim
  · exact p1.elim
end
end Q
end

section
set_option Elab.async false
set_option linter.all false
set_option maxRecDepth 100000
set_option maxHeartbeats 1000000
set_option autoImplicit false
/-! The text's own functions, by data. -/
namespace Q
open PySem PySem.Spec PyProof.Rows L2

def env0 (n : Nat) (ds : List D) : Ev := ds.map some ++ List.replicate (n - ds.length) none
def ofSR : SR → Res D
  | .nx _ st => .ok .non st
  | .rt d st => .ok d st
  | .exc c d _ st => .exc c d st
  | _ => .err
theorem evr_start {K : PySem.W.Frag} {P : Par} {M : List Addr} {H : Hp} {N : List Str} {ds : List D} {vs : List V} (r : DVs K M H ds vs) (hl : vs.length ≤ N.length) : EvR K P M H (L2.start N vs) (env0 N.length ds) := by
  have e := r.length
  refine ⟨by simp [env0, L2.start, e], fun i d h => ?_⟩
  unfold env0 at h
  unfold L2.start
  by_cases hi : i < ds.length
  · rw [List.getElem?_append_left (by simpa using hi), List.getElem?_map] at h
    cases q : ds[i]? with
    | none => rw [q] at h; cases h
    | some x =>
      rw [q] at h
      cases h
      obtain ⟨v, h1, h2⟩ := r.get q
      refine ⟨v, ?_, h2.x⟩
      rw [List.getElem?_append_left (by rw [List.length_map, ← e]; exact hi), List.getElem?_map, h1]
      rfl
  · rw [List.getElem?_append_right (by simpa using hi), List.getElem?_replicate] at h
    split at h <;> cases h

/-- a def's promise by data -/
def FnS (prog : Program) (w : World) (K : PySem.W.Frag) (mg : Str → Option Value) (base : Heap) (Pr : Par) (k : Nat) (f : Addr) (fd : FuncData) (ps : List Str) (F : List D → Sto → Res D) : Prop :=
  ∀ (A : Around) (outer : List Env) (s : Shared) (H : Hp) (args : Args) (us : List Value) (vs : List V) (Q : VK) (E : XK) (M : List Addr) (ds : List D) (st : Sto), Room k A → A.guards = some [] → Env0 prog w K mg base A outer s H → BindsTo s fd args (ps.zip us) → Vals vs us → vs.length = ps.length →
    At K Pr M H st → DVs K M H ds vs → Post K Pr M H (DV K) E (F ds st) Q → codeAny (model prog w) A (.call (.ref f) args) (CR (L2.CX prog w) outer prog w H s Q E) s
theorem FnS.mono {prog : Program} {w : World} {K : PySem.W.Frag} {mg : Str → Option Value} {base : Heap} {Pr : Par} {j k : Nat} {f : Addr} {fd : FuncData} {ps : List Str} {F : List D → Sto → Res D} (h : FnS prog w K mg base Pr j f fd ps F) (hk : j ≤ k) : FnS prog w K mg base Pr k f fd ps F :=
  fun A outer s H args us vs Q E M ds st hr => h A outer s H args us vs Q E M ds st (hr.mono hk)
theorem deeper_guards {A : Around} {env : Env} (h : A.guards = some []) : (A.deeper env).guards = some [] := h
theorem fns_of {prog : Program} {w : World} {K : PySem.W.Frag} {mg : Str → Option Value} {base : Heap} {Pr : Par} {k : Nat} {f : Addr} {name qual : Str} {params : Arguments} {body : List Stmt} {scope : Scope} {dV kV doc pm cdv ct oc : Value} {an od : Option Addr}
    {osl : Array (Option Value)} {N ps : List Str} {Fb : Ev → Sto → SR} (lk : K.lookup f = some ⟨oc, od, .func (PySem.W.fnOf name qual params body scope dV kV doc pm an cdv ct), osl⟩) (hcd : PySem.W.codeIn K cdv qual = true) (S : FnScope N ps scope)
    (hbody : ∀ (A : Around) (outer : List Env) (s : Shared) (H : Hp) (E : XK), Room k (A.deeper (envOfC qual scope s.heap.objs.size f cdv)) → (A.deeper (envOfC qual scope s.heap.objs.size f cdv)).guards = some [] →
      PSs (cxOf (L2.CX prog w) prog w K mg base N qual scope f cdv A outer s H E) body (tS K Pr (fun c d _ H => E c d H) Fb)) :
    FnS prog w K mg base Pr (k + 1) f (PySem.W.fnOf name qual params body scope dV kV doc pm an cdv ct) ps fun ds st => ofSR (Fb (env0 N.length ds) st) := by
  intro A outer s H args us vs Q E M ds st hr hgd e0 hb r hl at_ rd p
  dsimp only at p
  refine LamX.run_ofS lk hcd S hr e0 hb r hl fun hr' => ⟨_, hbody A outer s H E hr' (deeper_guards hgd), M, env0 N.length ds, st, evr_start rd ?_, at_, ?_⟩
  · have := congrArg List.length S.pre
    rw [List.length_take] at this
    omega
  · cases e : Fb (env0 N.length ds) st with
    | nx env st => rw [e] at p; exact fun σ' M' H' s a _ => p .non M' H' s a (dv_non.mpr rfl)
    | rt d st => rw [e] at p; exact p
    | bk env st => rw [e] at p; exact p.elim
    | ct env st => rw [e] at p; exact p.elim
    | exc c d env st => rw [e] at p; exact fun dd v σ' M' H' s a _ r x => p dd v M' H' s a r x
    | err => rw [e] at p; exact p.elim

/-! ### a call -/
def atLen (n : Nat) (F : List D → Sto → Res D) (ds : List D) (st : Sto) : Res D := if ds.length = n then F ds st else .err
/-- how the arguments are bound: positional values, then the keywords' values; ix: for each parameter which of them -/
def pick {α : Type} (ix : List Nat) (xs : List α) : List α := ix.filterMap fun i => xs[i]?
def KwB (fd : FuncData) (ps ks : List Str) (n : Nat) (ix : List Nat) : Prop := ∀ (us ws : List Value), us.length = n → ws.length = ks.length → bindArgs fd ⟨us, ks.zip ws⟩ = pure (ps.zip (pick ix (us ++ ws)))
section
variable {X : Cx} {Pr : Par} {W : WX} {k n : Nat} {f : Addr} {fd : FuncData} {ps ks : List Str} {F : List D → Sto → Res D} {x : Str} {p pos : Pos} {e : Expr} {es : List Expr} {kws : List Keyword} {G Gk : Ev → Sto → Res (List D)} {ix : List Nat}
theorem run_q {pins : List (Addr × Obj)} {σ : L2.St} {H : Hp} {s : Shared} {Q : VK} {us : List Value} {kw : List (Str × Value)} {vv : List Value} {vs : List V} {M : List Addr} {ds : List D} {st : Sto} (hF : FnS X.prog X.w X.K X.mg X.base Pr k f fd ps F) (hr : Room k X.A) (hgd : X.A.guards = some []) (hb : BindsTo s fd ⟨us, kw⟩ (ps.zip vv)) (tk : L2.Takes X W)
    (I : Inv X pins σ H s) (r : Vals vs vv) (hl : vs.length = ps.length) (at_ : At X.K Pr M H st) (rd : DVs X.K M H ds vs) (p : Post X.K Pr M H (DV X.K) (fun c d H' => W c d σ H') (F ds st) Q) : wpAny (model X.prog X.w) X.A (call (.ref f) us kw) (EP X pins σ Q) X.xe s := by
  refine wpAny_call (codeAny_mono (hF X.A X.stack s H ⟨us, kw⟩ vv vs Q (fun c d H' => W c d σ H') M ds st hr hgd I.env0 hb r hl at_ rd p) fun r s' hq => ?_)
  cases r with
  | error e => exact tk e s' (XE.of_call I (fun cls d H' h => h) hq)
  | ok fl =>
    cases fl with
    | ret u => exact I.after hq
    | next => exact False.elim hq
    | brk => exact False.elim hq
    | cont => exact False.elim hq
theorem q_call (hF : FnS X.prog X.w X.K X.mg X.base Pr k f fd ps F) (hr : Room k X.A) (hgd : X.A.guards = some []) (hg : Gl X x) (hm : X.mg x = some (.ref f)) (hk : PySem.W.keepIn X.K (.ref f) = true) (hb : ∀ us : List Value, us.length = ps.length → bindArgs fd ⟨us, []⟩ = pure (ps.zip us)) (tk : L2.Takes X W)
    (ha : PA X (e :: es) (tL X.K Pr W G)) (hdb : (x == ("__debug__" : Str)) = false) (he : starEach (e :: es) X.env = (false, eval e X.env) :: starEach es X.env) (hpl : (backTo pos (starEach es X.env)).any (·.1) = false) :
    PE X (.Call (.Name x p) (e :: es) [] pos) (tE X.K Pr W fun env st => (G env st).bind (atLen ps.length F)) := by
  refine ⟨fun pins s σ H Q I h => ?_⟩
  refine wpAny_Call_Name_kw (ld_glob I hg hm ?_ hdb)
  obtain ⟨M, env, st, sl, at_, p⟩ := h
  refine PySem.W.callWith_K (h₀ := X.base) I.ok.mod.kin hk (thn (ha.run pos pins s σ H _ I (tG.go sl at_ p (Q' := fun vs H1 => ∃ M ds st, At X.K Pr M H1 st ∧ DVs X.K M H1 ds vs ∧ ds.length = ps.length ∧ Post X.K Pr M H1 (DV X.K) (fun c d H' => W c d σ H') (F ds st) Q) fun vs H1 ds M1 st1 s1 a1 sl1 r1 p1 => ?_)) fun us s1 ⟨vs, H1, I1, r, M1, ds, st1, a1, r1, hl, p1⟩ => ⟨I1.kIn, ?_⟩) he hpl
  · unfold atLen at p1
    split at p1
    · rename_i hl; exact ⟨M1, ds, st1, a1, r1, hl, p1⟩
    · exact p1.elim
  · have hlv : vs.length = ps.length := by rw [← r1.length]; exact hl
    exact run_q hF hr hgd (.of_eq (hb us (by rw [← r.length]; exact hlv))) tk I1 r hlv a1 r1 p1
theorem q_call0 (hF : FnS X.prog X.w X.K X.mg X.base Pr k f fd [] F) (hr : Room k X.A) (hgd : X.A.guards = some []) (hg : Gl X x) (hm : X.mg x = some (.ref f)) (hk : PySem.W.keepIn X.K (.ref f) = true) (hb : ∀ us : List Value, us.length = 0 → bindArgs fd ⟨us, []⟩ = pure (([] : List Str).zip us)) (tk : L2.Takes X W)
    (hdb : (x == ("__debug__" : Str)) = false) : PE X (.Call (.Name x p) [] [] pos) (tE X.K Pr W fun env st => F [] st) := by
  refine ⟨fun pins s σ H Q I h => ?_⟩
  refine wpAny_Call_Name_kw (ld_glob I hg hm ?_ hdb)
  obtain ⟨M, env, st, sl, at_, p⟩ := h
  exact PySem.W.callWith_K0 I.kIn hk (run_q (us := []) (kw := []) (vv := []) hF hr hgd (.of_eq (hb [] rfl)) tk I .nil rfl at_ dvs_nil p)
/-! keywords -/
abbrev tK := @tL
theorem q_knil : PK X [] (tL X.K Pr W fun _ st => .ok [] st) := by
  refine ⟨fun pos pins s σ H Q I h => pk_nil.run pos pins s σ H Q I ?_⟩
  obtain ⟨M, env, st, sl, at_, p⟩ := h
  exact p [] M H (Stp.refl _ _) at_ dvs_nil
theorem q_kcons {nm : Option Str} {kpos : Pos} {Fe : Ev → Sto → Res D} (ha : PE X e (tE X.K Pr W Fe)) (hr : PK X kws (tL X.K Pr W G)) : PK X (⟨nm, e, kpos⟩ :: kws) (tL X.K Pr W fun env st => (Fe env st).bind fun d s1 => (G env s1).bind fun ds s2 => .ok (d :: ds) s2) := by
  refine ⟨fun pos pins s σ H Q I h => (pk_cons ha hr).run pos pins s σ H Q I ?_⟩
  obtain ⟨M, env, st, sl, at_, p⟩ := h
  refine tG.go sl at_ p fun x H1 dx M1 st1 s1 a1 sl1 r1 p1 => tG.go sl1 a1 p1 fun xs H2 ds M2 st2 s2 a2 sl2 r2 p2 => ?_
  exact p2 (x :: xs) M2 H2 (Stp.refl _ _) a2 (dvs_cons (r1.mono a1.mok s2) r2)
theorem pick_dvs {K : PySem.W.Frag} {M : List Addr} {H : Hp} {ds : List D} {vs : List V} (r : DVs K M H ds vs) : ∀ ix : List Nat, DVs K M H (pick ix ds) (pick ix vs)
  | [] => dvs_nil
  | i :: ix => by
    have ih := pick_dvs r ix
    unfold pick at ih ⊢
    rw [List.filterMap_cons, List.filterMap_cons]
    cases e : ds[i]? with
    | none =>
      have : vs[i]? = none := by
        rw [List.getElem?_eq_none_iff] at e ⊢
        rw [← r.length]; exact e
      rw [this]; exact ih
    | some d =>
      obtain ⟨v, h1, h2⟩ := r.get e
      rw [h1]
      exact dvs_cons h2 ih
theorem pick_vals {vs : List V} {us : List Value} (r : Vals vs us) : ∀ ix : List Nat, Vals (pick ix vs) (pick ix us)
  | [] => .nil
  | i :: ix => by
    have ih := pick_vals r ix
    unfold pick at ih ⊢
    rw [List.filterMap_cons, List.filterMap_cons]
    cases e : vs[i]? with
    | none =>
      have : us[i]? = none := by
        rw [List.getElem?_eq_none_iff] at e ⊢
        rw [← r.length]; exact e
      rw [this]; exact ih
    | some d =>
      obtain ⟨v, h1, h2⟩ := r.get e
      rw [h1]
      exact .cons h2 ih
/-- f(e, .., k = v, ..), by data -/
def kwRun (ps : List Str) (n : Nat) (ix : List Nat) (F : List D → Sto → Res D) (m : Nat) (ds es : List D) (st : Sto) : Res D :=
  if ds.length = n ∧ es.length = m ∧ (pick ix (ds ++ es)).length = ps.length then F (pick ix (ds ++ es)) st else .err
theorem q_callK0 (hF : FnS X.prog X.w X.K X.mg X.base Pr k f fd ps F) (hr : Room k X.A) (hgd : X.A.guards = some []) (hg : Gl X x) (hm : X.mg x = some (.ref f)) (hk : PySem.W.keepIn X.K (.ref f) = true) (hb : KwB fd ps ks 0 ix) (tk : L2.Takes X W)
    (hkw : PK X kws (tL X.K Pr W Gk)) (hall : (backToKw pos (keywordEach kws X.env)).all (·.1.isSome) = true) (hks : (backToKw pos (keywordEach kws X.env)).filterMap (·.1) = ks) (hdb : (x == ("__debug__" : Str)) = false)
    (hpl : ((backTo pos (starEach [] X.env)).any (·.1) || (backToKw pos (keywordEach kws X.env)).any (·.1.isNone)) = false) :
    PE X (.Call (.Name x p) [] kws pos) (tE X.K Pr W fun env st => (Gk env st).bind (kwRun ps 0 ix F ks.length [])) := by
  refine ⟨fun pins s σ H Q I h => ?_⟩
  refine wpAny_Call_Name_kw (ld_glob I hg hm ?_ hdb)
  obtain ⟨M, env, st, sl, at_, p⟩ := h
  refine PySem.W.callWith_KW0 (h₀ := X.base) I.ok.mod.kin hk hall (thn (hkw.run pos pins s σ H _ I (tG.go sl at_ p (Q' := fun vs H1 => ∃ M ds st, At X.K Pr M H1 st ∧ DVs X.K M H1 ds vs ∧ ds.length = ks.length ∧ (pick ix ds).length = ps.length ∧ Post X.K Pr M H1 (DV X.K) (fun c d H' => W c d σ H') (F (pick ix ds) st) Q) fun vs H1 ds M1 st1 s1 a1 sl1 r1 p1 => ?_)) fun us s1 ⟨vs, H1, I1, r, M1, ds, st1, a1, r1, hl, hl2, p1⟩ => ⟨I1.kIn, ?_⟩) hpl
  · unfold kwRun at p1
    split at p1
    · rename_i hl; exact ⟨M1, ds, st1, a1, r1, hl.2.1, hl.2.2, p1⟩
    · exact p1.elim
  · rw [hks]
    have r2 := pick_dvs r1 ix
    exact run_q (us := []) (vv := pick ix us) hF hr hgd (.of_eq (hb [] us rfl (by rw [← r.length, ← r1.length]; exact hl))) tk I1 (pick_vals r ix) (by rw [← r2.length]; exact hl2) a1 r2 p1
theorem q_callK (hF : FnS X.prog X.w X.K X.mg X.base Pr k f fd ps F) (hr : Room k X.A) (hgd : X.A.guards = some []) (hg : Gl X x) (hm : X.mg x = some (.ref f)) (hk : PySem.W.keepIn X.K (.ref f) = true) (hb : KwB fd ps ks n ix) (tk : L2.Takes X W)
    (ha : PA X (e :: es) (tL X.K Pr W G)) (hkw : PK X kws (tL X.K Pr W Gk)) (hall : (backToKw pos (keywordEach kws X.env)).all (·.1.isSome) = true) (hks : (backToKw pos (keywordEach kws X.env)).filterMap (·.1) = ks) (hdb : (x == ("__debug__" : Str)) = false)
    (he : starEach (e :: es) X.env = (false, eval e X.env) :: starEach es X.env)
    (hpl : ((backTo pos (starEach (e :: es) X.env)).any (·.1) || (backToKw pos (keywordEach kws X.env)).any (·.1.isNone)) = false) :
    PE X (.Call (.Name x p) (e :: es) kws pos) (tE X.K Pr W fun env st => (G env st).bind fun ds s1 => (Gk env s1).bind (kwRun ps n ix F ks.length ds)) := by
  refine ⟨fun pins s σ H Q I h => ?_⟩
  refine wpAny_Call_Name_kw (ld_glob I hg hm ?_ hdb)
  obtain ⟨M, env, st, sl, at_, p⟩ := h
  refine PySem.W.callWith_KW (h₀ := X.base) I.ok.mod.kin hk hall (thn (ha.run pos pins s σ H _ I (tG.go sl at_ p (Q' := fun vs H1 => tG X.K Pr W (DVs X.K) Gk σ H1 fun ws H2 => ∃ M ds es st, At X.K Pr M H2 st ∧ DVs X.K M H2 ds vs ∧ DVs X.K M H2 es ws ∧ ds.length = n ∧ es.length = ks.length ∧ (pick ix (ds ++ es)).length = ps.length ∧ Post X.K Pr M H2 (DV X.K) (fun c d H' => W c d σ H') (F (pick ix (ds ++ es)) st) Q) fun vs H1 ds M1 st1 s1 a1 sl1 r1 p1 => ?_)) fun us s1 ⟨vs, H1, I1, r, q⟩ => ?_) hpl he
  · refine tG.go sl1 a1 p1 fun ws H2 es M2 st2 s2 a2 sl2 r2 p2 => ?_
    unfold kwRun at p2
    split at p2
    · rename_i hl; exact ⟨M2, ds, es, st2, a2, r1.mono a1.mok s2, r2, hl.1, hl.2.1, hl.2.2, p2⟩
    · exact p2.elim
  · refine thn (hkw.run pos pins s1 σ H1 _ I1 q) fun ws s2 ⟨zs, H2, I2, rz, M2, ds, es, st2, a2, r1, r2, h1, h2, h3, p2⟩ => ⟨I2.kIn, ?_⟩
    rw [hks]
    have r3 := pick_dvs (r1.append r2) ix
    exact run_q (us := us) (vv := pick ix (us ++ ws)) hF hr hgd (.of_eq (hb us ws (by rw [← r.length, ← r1.length]; exact h1) (by rw [← rz.length, ← r2.length]; exact h2))) tk I2 (pick_vals (r.append rz) ix) (by rw [← r3.length]; exact h3) a2 r3 p2
end
end Q
end

section
set_option Elab.async false
set_option linter.all false
set_option maxRecDepth 100000
set_option maxHeartbeats 4000000
set_option autoImplicit false
/-! An own exception over Exception whose __init__ notes one field. -/
namespace QX
open PySem PySem.Spec PySem.W PySem.Calls PyProof.Rows PySem.HandSPX L2 Builtin Builtin.ObjectAttr
/-- own classes, then Exception's own line -/
def refsE : List Value → Bool
  | .ref _ :: r => refsE r
  | l => l == [.type "Exception", .type "BaseException", .type "object"]
theorem refsE_two {l : List Value} (h : refsE l = true) : (∃ c r, l = .ref c :: r ∧ refsE r = true) ∨ l = [.type "Exception", .type "BaseException", .type "object"] := by
  unfold refsE at h
  split at h
  · rename_i c r
    exact .inl ⟨c, r, rfl, h⟩
  · exact .inr (beq_iff_eq.mp h)
theorem refsE_has (Y : String) : ∀ l : List Value, refsE l = true → l.contains (.type Y) = [Value.type "Exception", .type "BaseException", .type "object"].contains (.type Y)
  | [], h => absurd h (by decide)
  | a :: r, h => by
    rcases refsE_two h with ⟨c, r', q, hr⟩ | q
    · cases q
      rw [List.contains_cons, refsE_has Y r hr]
      rfl
    · rw [q]
theorem refsE_lets (self : Value) : ∀ l : List Value, refsE l = true → refuseLoop self "__setattr__" l = pure ()
  | [], h => absurd h (by decide)
  | a :: r, h => by
    rcases refsE_two h with ⟨c, r', q, hr⟩ | q
    · cases q
      rw [refuseLoop_ref]
      exact refsE_lets self r hr
    · rw [q]
      exact F.store_Exception.passes self
theorem refsE_some {l : List Value} (h : refsE l = true) : l.isEmpty = false := by
  cases l with
  | nil => exact absurd h (by decide)
  | cons _ _ => rfl
section
variable {P : Program} {w : World} {A : Around} {E : Value → Shared → Prop} {R : Result → Shared → Prop} {h0 : Heap} {g : Array GenState} {dr : Drawn} {t : Nat} {os : OsState}
theorem osaE {K : Frag} {f : Str} {tk : Tok} {v : Value} {x C : Addr} {vs : Array Value} {cd : ClassData} (kin : K.In h0) (ox : h0.get? x = some { cls := .ref C, data := .fields vs }) (ecd : clsIn K C = some cd) (em : refsE cd.mro = true) (ed : cd.hasDict = true) (ef : findIn K (.ref C) f = some none)
    (after : ∀ h1 tk1 dx, (∀ b o, b ≠ x → h0.get? b = some o → h1.get? b = some o) → h0.objs.size ≤ dx → dx ≠ x → h1.get? x = some { cls := .ref C, dict := some dx, data := .fields vs } → h1.Ns1 dx (fun y => if y = f then some v else none) → R (.ok (.ret .none)) ⟨h1, g, dr, tk1, os⟩) :
    codeAny (model P w) A (.call (.builtin "object.__setattr__") ⟨[.ref x, .str f tk, v], []⟩) R ⟨h0, g, dr, t, os⟩ := by
  have inst : InstAt h0 x { cls := .ref C, data := .fields vs } C none := ⟨ox, rfl, rfl, trivial⟩
  have SO := F.store_object
  have nx : x ≠ h0.objs.size := Nat.ne_of_lt (Heap.lt_size ox)
  have isObj : Looks (model P w) h0 (isInstance (.ref x) (.type "object")) true := inst.type.andThen (looks_mroIn kin (by
    unfold mroIn
    rw [ecd, Option.bind_some, if_neg (by rw [refsE_some em]; decide), show cd.mro.contains (.type "object") = true from (refsE_has "object" _ em).trans (by decide +kernel)]))
  refine codeAny_call_builtin SO.slot.plain SO.entry (@check_slot (model P w) _ _ ⟨h0, g, dr, t, os⟩ "object.__setattr__" "object" "__setattr__" (.ref x) [.str f tk, v] [] _ SO.kind SO.split isObj (SO.args (.ref x) (.str f tk) v) ?_)
  have lm : Looks (model P w) h0 (mroOf (.ref C)) cd.mro := (looks_clsIn kin ecd).andThen .now
  have lt : Looks (model P w) h0 (storeTaker? none) none := .now
  have lc : Looks (model P w) h0 (classData C) cd := looks_clsIn kin ecd
  rw [osa_eq, refuse_eq]
  refine wpAny_bind (wpAny_bind (inst.type.at (wpAny_bind (lm.at ?_))))
  rw [refsE_lets _ _ em]
  refine wpAny_pure (wpAny_bind (inst.type.at (wpAny_bind ((looks_findIn kin ef).at (wpAny_bind (lt.at ?_))))))
  show wpAny _ _ (storeInOwnDict (.ref x) (.ref C) (.str f tk) f v false) _ _ _
  obtain ⟨nm, bs, mro, ns, qn, hd, sn, sb, ab, col, del⟩ := cd
  obtain rfl : hd = true := ed
  unfold storeInOwnDict ownDictForStores
  repeat (first | with_reducible refine store_in_new ?_ ?_ | with_reducible refine wpAny_loadPart_at ox ?_ | with_reducible refine lc.at ?_ | wp_step)
  · exact ⟨_, #[], _, (Heap.get?_update_ne _ _ _ _ nx.symm).trans (Heap.get?_push_at rfl rfl), rfl, fun _ he => absurd he (by simp), fun _ => rfl⟩
  · intro h1 tk1 n1 sb1
    have ox1 : (h0.push { cls := .type "dict", data := .dict #[] }).get? x = some { cls := .ref C, data := .fields vs } := Heap.get?_push_of_some _ ox
    exact after h1 tk1 h0.objs.size (fun b o hb ho => (sb1.2 b (Nat.ne_of_lt (Heap.lt_size ho))).trans ((Heap.get?_update_ne _ _ _ _ hb).trans (Heap.get?_push_of_some _ ho))) (Nat.le_refl _) nx.symm ((sb1.2 x nx).trans (Heap.get?_update_self _ ox1 rfl)) n1
end
end QX

namespace Q
open PySem PySem.Spec PyProof.Rows L2
/-- what the written part says of an own class of exceptions -/
structure OwnE (K : PySem.W.Frag) (C : Addr) : Prop where
  cls : ∃ nm q N bs bm sn sub ab col dd k0 k1 k2 k3 k5, K.lookup C = some (excClassObj nm q C N bs bm true sn sub ab col dd k0 k1 k2 k3 k5 "Exception.__new__") ∧ QX.refsE bm = true
  sa : PySem.W.findIn K (.ref C) "__setattr__" = some (some (.builtin "object.__setattr__"))
  exC : PySem.W.subIn K (.ref C) (.type "BaseException") = some true
  tyC : PySem.W.typeIn K (.ref C) = some (.type "type")
  kC : PySem.W.keepIn K (.ref C) = true
section
variable {X : Cx} {pins : List (Addr × Obj)} {σ : L2.St} {H : Hp} {s : Shared} {a C : Addr} {f : Str} {y : V} {u : Value} {E : Value → Shared → Prop} {A : Around}
theorem noteE {Q : Unit → Shared → Prop} (T : OwnE X.K C) (I : Inv X pins σ H s) (e : H a = some (exo a C none)) (hno : PySem.W.findIn X.K (.ref C) f = some none) (ry : RelV y u)
    (k : ∀ d s1, H d = none → d ≠ a → Inv X pins σ (upd (upd H d (exd d [(f, y)])) a (exo a C (some d))) s1 → Q () s1) : wpAny (model X.prog X.w) A (setAttr (.ref a) f u) Q E s := by
  obtain ⟨nm, q, N, bs, bm, sn, sub, ab, col, dd, k0, k1, k2, k3, k5, hC, hbm⟩ := T.cls
  have ecl : PySem.W.clsIn X.K C = some ⟨nm, bs, .ref C :: bm, N, q, true, sn, sub, ab, col, false⟩ := by
    unfold PySem.W.clsIn
    rw [hC] <;> rfl
  obtain ⟨t1, ho⟩ := exo_at I.hok e
  obtain ⟨hp, gg, dw, tt, oo⟩ := s
  refine PySem.W.set_plain I.kIn (ox := { cls := .ref C, dict := none, data := .fields #[.ref t1, .none, .none, .none, .bool false, .none] }) (od := none) ⟨ho, rfl, rfl, trivial⟩ T.sa ?_
  refine QX.osaE I.kIn ho ecl (show QX.refsE (.ref C :: bm) = true from hbm) rfl hno fun h1 tk1 d kp dn dne hx hn => ?_
  have hnd : H d = none := I.hok.fresh dn
  have old : ∀ {b : Addr} {o : Obj}, hp.get? b = some o → b ≠ d := fun {b o} z => Nat.ne_of_lt (Nat.lt_of_lt_of_le (Heap.lt_size z) dn)
  have off : ∀ {b : Addr}, H b = none → b ≠ a := fun {b} n z => by rw [z, e] at n; cases n
  have U : Un X.fs [] H (upd (upd H d (exd d [(f, y)])) a (exo a C (some d))) hp h1 :=
    ⟨fun b o z n _ _ => kp b o (off n) z, fun b o z n _ _ => ⟨o.slots, kp b o (off n) z⟩, fun b o z n _ => by rw [upd_ne (off n), upd_ne (old z)]; exact n, fun b o z _ => by
      by_cases hb : b = a
      · exact ⟨_, by rw [hb]; exact hx⟩
      · exact ⟨o, kp b o hb z⟩, fun b xs z => by rw [upd_ne (at_ne e z exo_tup), upd_ne (ne_of_none z hnd)]; exact z, fun b o v z => by rw [upd_ne (at_ne e z exo_frz), upd_ne (ne_of_none z hnd)]; exact z, fun b ps z => ⟨#[], by rw [upd_ne (at_ne e z exo_tbl), upd_ne (ne_of_none z hnd), z]; simp⟩⟩
  refine k d _ hnd dne (I.un (t' := tk1) U fun b o z => ?_)
  by_cases hb : b = a
  · subst hb
    rw [upd_same] at z
    cases z
    exact exo_ok hx
  rw [upd_ne hb] at z
  by_cases hd : b = d
  · subst hd
    rw [upd_same] at z
    cases z
    exact exd_ok hn (relO_put (fs := []) ry fun _ => True.intro)
  rw [upd_ne hd] at z
  refine (I.hok b o z).stay (fun c v hc z' => kp c v ?_ z') (fun c hc => by rw [upd_ne (at_ne e hc exo_own), upd_ne (ne_of_none hc hnd)]; exact hc) (fun c xs hc => by rw [upd_ne (at_ne e hc exo_tup), upd_ne (ne_of_none hc hnd)]; exact hc)
  rcases hc with hc | hc
  · rw [hc]; exact hb
  · exact at_ne e hc exo_own
end
/-- __init__(self, v): self.f = v : its body -/
def tNote (K : PySem.W.Frag) (f : Str) (to te : TE) : TS := fun De σ H => te σ H fun y H1 => to σ H1 fun x H2 => ∃ a C : Addr, x = .ref a ∧ OwnE K C ∧ PySem.W.findIn K (.ref C) f = some none ∧ H2 a = some (exo a C none) ∧ ∀ d, H2 d = none → d ≠ a → De.nx σ (upd (upd H2 d (exd d [(f, y)])) a (exo a C (some d)))
theorem ps_note {X : Cx} {o e : Expr} {to te : TE} {f : Str} {p pos : Pos} (ho : PE X o to) (he : PE X e te) (hs : swapsWith e (some (.Attribute o f p)) pos.line X.env = pure false) : PS X (.Assign [.Attribute o f p] e pos) (tNote X.K f to te) := by
  refine ⟨fun pins s σ H De I h => ?_⟩
  refine plainObj_wpAny_Assign_Attribute (thn (he.run pins s σ H _ I h) fun v s1 ⟨y, H1, I1, r1, q1⟩ => thn (ho.run pins s1 σ H1 _ I1 q1) fun u s2 ⟨x, H2, I2, r2, a, C, ex, T, hno, ea, q⟩ => ?_) hs
  subst ex
  obtain rfl : u = Value.ref a := r2
  exact noteE T I2 ea hno r1 fun d s' n ne J => ⟨σ, _, J, q d n ne⟩
/-- the promise of such an __init__ -/
def InitSp (C : Addr) (f : Str) : Sp := fun vs H Q _ => ∃ (a : Addr) (v : V), vs = [.ref a, v] ∧ H a = some (exo a C none) ∧ ∀ d, H d = none → d ≠ a → Q .non (upd (upd H d (exd d [(f, v)])) a (exo a C (some d)))
def initA (x y : Str) (p1 p2 : Pos) : Arguments := ⟨[], [⟨x, none, p1⟩, ⟨y, none, p2⟩], none, [], [], none, []⟩
def initB (x y f : Str) (q1 q2 q3 q4 : Pos) : List Stmt := [.Assign [.Attribute (.Name x q1) f q2] (.Name y q3) q4]
def initS (x y : Str) : Scope := ⟨.function, [(x, .local), (y, .local)], false, false, []⟩
structure InitP (x y : Str) : Prop where
  ne : x ≠ y
  d1 : (x == ("__debug__" : Str)) = false
  d2 : (y == ("__debug__" : Str)) = false
  c1 : (x == ("__classdict__" : Str)) = false
  c2 : (y == ("__classdict__" : Str)) = false
theorem init_ok {prog : Program} {w : World} {K : PySem.W.Frag} {mg : Str → Option Value} {base : Heap} {fI C : Addr} {name qual x y f : Str} {p1 p2 q1 q2 q3 q4 : Pos} {dV kV doc pm cdv ct oc : Value} {an od : Option Addr} {osl : Array (Option Value)} (T : OwnE K C) (hno : PySem.W.findIn K (.ref C) f = some none) (N : InitP x y)
    (lk : K.lookup fI = some ⟨oc, od, .func (PySem.W.fnOf name qual (initA x y p1 p2) (initB x y f q1 q2 q3 q4) (initS x y) dV kV doc pm an cdv ct), osl⟩) (hcd : PySem.W.codeIn K cdv qual = true) :
    FnOk prog w K mg base (L2.CX prog w) 1 fI (PySem.W.fnOf name qual (initA x y p1 p2) (initB x y f q1 q2 q3 q4) (initS x y) dV kV doc pm an cdv ct) [x, y] (InitSp C f) := by
  have hyx : (y == x) = false := by simpa using fun h => N.ne h.symm
  have hv1 : (initS x y).names.lookup x = some .local := by simp [initS, List.lookup]
  have hv2 : (initS x y).names.lookup y = some .local := by simp [initS, List.lookup, hyx]
  refine fn_of (N := [x, y]) lk hcd ⟨rfl, rfl, rfl, by simpa using N.ne, rfl, fun z hz => ?_, fun z hz => ?_⟩ (fun vs H Q E ⟨a, v, e, _⟩ => by rw [e]; rfl) fun A outer s H vs Q E hr ⟨a, v, e, ea, k⟩ => ⟨_, pss_one (ps_note (pe_var (i := 0) rfl (.inl hv1) N.d1 N.c1) (pe_var (i := 1) rfl (.inl hv2) N.d2 N.c2) (by rfl)), ?_⟩
  · rcases List.mem_cons.mp hz with rfl | hz
    · exact .inl hv1
    · rcases List.mem_cons.mp hz with rfl | hz
      · exact .inl hv2
      · cases hz
  · rcases List.mem_cons.mp hz with rfl | hz
    · exact fun z => nomatch z
    · rcases List.mem_cons.mp hz with rfl | hz
      · exact fun z => nomatch z
      · cases hz
  · subst e
    exact ⟨v, rfl, .ref a, rfl, a, C, rfl, T, hno, ea, k⟩
section
variable {X : Cx} {P : Par} {W : WX} {e : Expr} {p pos : Pos} {x f : Str} {C fI : Addr} {k : Nat} {fd : FuncData} {ps : List Str} {G : Ev → Sto → Res (List D)}
def tMkE (C : Addr) (f : Str) (ta : TA) : L2.St → Hp → XK → Prop := fun σ H Q => ta σ H fun vs H1 => ∃ v, vs = [v] ∧ ∀ d, H1 d = none → Q (.ref C) (some d) (upd H1 d (.xd [(f, v)]))
theorem pmk_E {ta : TA} (T : OwnE X.K C) (iC : PySem.W.findIn X.K (.ref C) "__init__" = some (some (.ref fI))) (tI : PySem.W.typeIn X.K (.ref fI) = some (.type "function")) (F1 : FnOk X.prog X.w X.K X.mg X.base (L2.CX X.prog X.w) k fI fd ps (InitSp C f)) (hps : ps.length = 2) (hr : Room (k + 1) X.A)
    (hb : ∀ us : List Value, us.length = 2 → bindArgs fd ⟨us, []⟩ = pure (ps.zip us)) (hg : Gl X x) (hm : X.mg x = some (.ref C)) (ha : PA X [e] ta) (hdb : (x == ("__debug__" : Str)) = false) (he : starEach [e] X.env = (false, eval e X.env) :: starEach [] X.env) (hpl : (backTo pos (starEach [] X.env)).any (·.1) = false) :
    PMk X (.Call (.Name x p) [e] [] pos) (tMkE C f ta) := by
  intro pins s σ H Q I h
  obtain ⟨nm, q, N, bs, bm, sn, sub, ab, col, dd, k0, k1, k2, k3, k5, hC, hbm⟩ := T.cls
  refine wpAny_Call_Name_kw (ld_glob I hg hm ?_ hdb)
  refine PySem.W.callWith_K (h₀ := X.base) I.ok.mod.kin T.kC (thn (ha.run pos pins s σ H _ I h) fun us s1 ⟨vs, H1, I1, r1, v, ev, q1⟩ => ⟨I1.kIn, ?_⟩) he hpl
  subst ev
  obtain ⟨u, rfl, ru⟩ := vals_one r1
  show wpAny _ _ (call (.ref C) [u]) _ _ _
  obtain ⟨hp, gg, dw, tt, oo⟩ := s1
  have up : hp.objs.size ≤ hp.objs.size + 1 := Nat.le_succ _
  have hn : H1 (hp.objs.size + 1) = none := I1.hok.fresh up
  have kk : ∀ b o, hp.get? b = some o → ((hp.push (PySem.W.kdv_tup [u])).push (PySem.HandSPX.excO C hp.objs.size)).get? b = some o := fun b o z => Heap.get?_push_of_some _ (Heap.get?_push_of_some _ z)
  have hget : ((hp.push (PySem.W.kdv_tup [u])).push (PySem.HandSPX.excO C hp.objs.size)).get? (hp.objs.size + 1) = some (PySem.HandSPX.excO C hp.objs.size) := by heap_get
  have I2 : Inv X pins σ (upd H1 (hp.objs.size + 1) (exo (hp.objs.size + 1) C none)) ⟨(hp.push (PySem.W.kdv_tup [u])).push (PySem.HandSPX.excO C hp.objs.size), gg, dw, tt, oo⟩ := I1.laid (t' := tt) kk up (exo_ok hget)
  refine wpAny_call (PySem.HandSPX.call_own F.excBase_Exception (fun Y => QX.refsE_has Y bm hbm) (I1.kIn _ _ hC) (PySem.W.looks_findIn I1.kIn iC) (fun self => PySem.W.bind_fn I1.kIn self tI) (by show 1 ≤ sizeLine; rw [sizeLine_eq]; omega)
    (codeAny_mono (F1.run _ X.stack _ _ ⟨[Value.ref (hp.objs.size + 1), u], []⟩ [Value.ref (hp.objs.size + 1), u] [.ref (hp.objs.size + 1), v] (fun v2 H2 => v2 = .non ∧ ∃ d, H1 d = none ∧ H2 = upd (upd (upd H1 (hp.objs.size + 1) (exo (hp.objs.size + 1) C none)) d (exd d [(f, v)])) (hp.objs.size + 1) (exo (hp.objs.size + 1) C (some d)) ∧ d ≠ hp.objs.size + 1) (fun _ _ _ => False) (hr.make C [u] []) (I2.env0.make C [u] []) (.of_eq (hb _ rfl)) (.cons rfl (.cons ru .nil))
      ⟨_, v, rfl, upd_same, fun d n ne => ⟨rfl, d, by rw [upd_ne ne] at n; exact n, rfl, ne⟩⟩) fun r s' hq => ?_))
  cases r with
  | error er =>
    obtain ⟨_, _, _, _, _, _, _, _, _, _, _, _, z⟩ := hq
    exact z.elim
  | ok fl =>
    cases fl with
    | ret u2 =>
      obtain ⟨v2, H2, os2, bare2, un2, hok2, rv, ev, d, hd1, hH2, dne⟩ := hq
      subst ev
      obtain ⟨h2, g2, d2, t2, os'⟩ := s'
      have ea : H2 (hp.objs.size + 1) = some (exo (hp.objs.size + 1) C (some d)) := by rw [hH2]; exact upd_same
      have ed : H2 d = some (exd d [(f, v)]) := by rw [hH2, upd_ne dne]; exact upd_same
      refine ⟨rv, mk_end (raises_own T.exC T.tyC) I1 up kk un2 hok2 os2 bare2 ea ed hd1 ?_⟩
      have eH : upd (del H2 (hp.objs.size + 1)) d (.xd [(f, v)]) = upd H1 d (.xd [(f, v)]) := by
        funext b
        by_cases hb1 : b = d
        · rw [hb1, upd_same, upd_same]
        · rw [upd_ne hb1, upd_ne hb1]
          by_cases hb2 : b = hp.objs.size + 1
          · rw [hb2, del_same, hn]
          · rw [del_ne hb2, hH2, upd_ne hb2, upd_ne hb1, upd_ne hb2]
      rw [eH]
      exact q1 d hd1
    | next => exact False.elim hq
    | brk => exact False.elim hq
    | cont => exact False.elim hq
/-- raise C(e) -/
theorem q_raise {c : Nat} (hcl : P.CA c = C) (hfn : P.FN c = f) (T : OwnE X.K C) (iC : PySem.W.findIn X.K (.ref C) "__init__" = some (some (.ref fI))) (tI : PySem.W.typeIn X.K (.ref fI) = some (.type "function")) (F1 : FnOk X.prog X.w X.K X.mg X.base (L2.CX X.prog X.w) k fI fd ps (InitSp C f)) (hps : ps.length = 2) (hr : Room (k + 1) X.A)
    (hb : ∀ us : List Value, us.length = 2 → bindArgs fd ⟨us, []⟩ = pure (ps.zip us)) (hg : Gl X x) (hm : X.mg x = some (.ref C)) (hc : X.calm = true) (tk : L2.Takes X W) (ha : PA X [e] (tL X.K P W G)) (hdb : (x == ("__debug__" : Str)) = false) (he : starEach [e] X.env = (false, eval e X.env) :: starEach [] X.env) (hpl : ∀ pos, (backTo pos (starEach [] X.env)).any (·.1) = false) {pos2 : Pos} :
    PS X (.Raise (some (.Call (.Name x p) [e] [] pos)) none pos2) (tS X.K P W fun env st => (G env st).then env fun ds s1 => match ds with
      | [d] => .exc c d env s1
      | _ => .err) := by
  refine ⟨fun pins s σ H De I h => (ps_raise hc tk (pmk_E T iC tI F1 hps hr hb hg hm ha hdb he (hpl pos))).run pins s σ H De I ?_⟩
  obtain ⟨M, env, st, sl, at_, p⟩ := h
  refine tG.goS sl at_ p fun xs H1 ds M1 st1 s1 a1 sl1 r1 p1 => ?_
  split at p1
  · rename_i d
    obtain ⟨v, rfl, rv⟩ := one_of r1
    refine ⟨v, rfl, fun dd hn => ?_⟩
    subst hcl hfn
    have s2 : Stp M1 H1 M1 (upd H1 dd (.xd [(P.FN c, v)])) := stp_new hn
    exact p1 dd v σ M1 _ s2 (a1.new hn) (sl1.mono a1.mok s2) (rv.mono a1.mok s2) upd_same
  · exact p1.elim
end
end Q
end

section
set_option Elab.async false
set_option linter.all false
set_option maxRecDepth 100000
set_option maxHeartbeats 1000000
set_option autoImplicit false
/-! try with several clauses, by names or tuples of names, with or without as. -/
namespace Q
open PySem PySem.Spec PyProof.Rows L2
/-- v, in a heap that holds h, is tried against an exception's class as cs says -/
def ExcT (K : PySem.W.Frag) (M : Model) (h : Heap) (v : Value) (cs : List Value) : Prop := ∀ (cls : Value) (e : Addr) (b : Bool), K.In h → PySem.W.Looks M h (typeOf (.ref e)) cls → PySem.W.exmAny K cls cs = some b → PySem.W.Looks M h (excMatches (.ref e) v) b
def TestOk (X : Cx) (ty : Expr) (cs : List Value) : Prop := ∀ (a : Addr) (oe : Obj) (pn pins : List (Addr × Obj)) (σ : L2.St) (H : Hp) (s : Shared) (Q : Value → Shared → Prop) (E : Value → Shared → Prop), Inv (X.suite a ((a, oe) :: pn)) pins σ H s →
  (∀ (h1 : Heap) (v : Value), (∀ b o, s.heap.get? b = some o → h1.get? b = some o) → ExcT X.K (model X.prog X.w) h1 v cs → Q v { s with heap := h1 }) → wpAny (model X.prog X.w) (X.A.mark (some (.ref a))) (eval ty X.env) Q E s
section
variable {X : Cx}
theorem ld_names {x : Str} {c : Value} {np : Pos} (hc : Names X x c) {a : Addr} {oe : Obj} {pn pins : List (Addr × Obj)} {σ : L2.St} {H : Hp} {s : Shared} {Q : Value → Shared → Prop} {E : Value → Shared → Prop} (I : Inv (X.suite a ((a, oe) :: pn)) pins σ H s) (q : Q c s) :
    wpAny (model X.prog X.w) (X.A.mark (some (.ref a))) (eval (.Name x np) X.env) Q E s := by
  obtain ⟨g, db, m | ⟨m, v, nn⟩⟩ := hc
  · exact ld_glob (X := X.suite a ((a, oe) :: pn)) I g m q db
  · exact ld_blt (X := X.suite a ((a, oe) :: pn)) I g m v q nn db
theorem test_one {x : Str} {c : Value} {np : Pos} (hc : Names X x c) : TestOk X (.Name x np) [c] := by
  intro a oe pn pins σ H s Q E I k
  refine ld_names hc I (k s.heap c (fun _ _ e => e) fun cls e b kin LT hx => ?_)
  obtain ⟨b1, d1, h1, h2, e1⟩ := PySem.W.exmAny_cons hx
  cases h2
  rw [Bool.or_false] at e1
  subst e1
  exact PySem.W.exm_one kin LT h1
theorem names_list {a : Addr} {oe : Obj} {pn pins : List (Addr × Obj)} {σ : L2.St} {H : Hp} {s : Shared} {E : Value → Shared → Prop} {tpos : Pos} (I : Inv (X.suite a ((a, oe) :: pn)) pins σ H s) :
    ∀ {l : List (Str × Pos)} {cs : List Value} {Q : List Value → Shared → Prop}, (∀ p ∈ l.zip cs, Names X p.1.1 p.2) → l.length = cs.length → Q cs s →
      wpAny (model X.prog X.w) (X.A.mark (some (.ref a))) (spliced (backTo tpos (starEach (l.map fun p => Expr.Name p.1 p.2) X.env))) Q E s
  | [], cs, Q, _, hl, q => by
    cases cs with
    | nil => exact Calls.spliced_nil q
    | cons _ _ => cases hl
  | p :: l, cs, Q, hn, hl, q => by
    cases cs with
    | nil => cases hl
    | cons c cs =>
      refine Calls.spliced_cons (ld_names (hn (p, c) (List.mem_cons_self ..)) I ?_)
      exact names_list I (Q := fun vs s2 => Q (c :: vs) s2) (fun z hz => hn z (List.mem_cons_of_mem _ hz)) (by simpa using hl) q
theorem test_tup {l : List (Str × Pos)} {cs : List Value} {k : Nat} {tp : Pos} (hn : ∀ p ∈ l.zip cs, Names X p.1.1 p.2) (hl : l.length = cs.length) (h2 : cs.length = 2 ∨ cs.length = 3 ∨ cs.length = 4) : TestOk X (.Tuple (l.map fun p => Expr.Name p.1 p.2) k tp) cs := by
  intro a oe pn pins σ H s Q E I kk
  refine wpAny_Tuple_spliced (names_list I hn hl ⟨by rw [sizeLine_eq]; omega, ?_⟩)
  refine kk _ _ (fun b o e => Heap.get?_push_of_some _ e) fun cls e b kin LT hx => ?_
  have hp : ∀ {o : Obj}, o.isFreed = false → (s.heap.push o).get? s.heap.objs.size = some o := fun {o} ho => Heap.get?_push_size _ ho
  match cs, h2, hx, hp (o := { cls := .type "tuple", data := .seq cs.toArray }) rfl with
  | [c1, c2], _, hx, hp => exact PySem.W.exm_tup2 kin LT hp hx
  | [c1, c2, c3], _, hx, hp => exact PySem.W.exm_tup3 kin LT hp hx
  | [c1, c2, c3, c4], _, hx, hp => exact PySem.W.exm_tup4 kin LT hp hx
  | [], h2, _, _ => rcases h2 with h | h | h <;> cases h
  | [_], h2, _, _ => rcases h2 with h | h | h <;> cases h
  | _ :: _ :: _ :: _ :: _ :: _, h2, _, _ => rcases h2 with h | h | h <;> simp at h
end

/-- a clause: its classes, the slot behind as, what its suite reads -/
structure Cl where
  cs : List Value
  i : Option Nat
  ts : Addr → Value → Option Addr → TS
def outS (i : Option Nat) (σ : L2.St) : L2.St := match i with
  | some i => σ.set i none
  | none => σ
def inS (i : Option Nat) (a : Addr) (σ : L2.St) : L2.St := match i with
  | some i => σ.set i (some (.ref a))
  | none => σ
def endS (i : Option Nat) (De : Ends) : Ends := { nx := fun σ H => De.nx (outS i σ) H, rt := De.rt, bk := fun σ H => De.bk (outS i σ) H, ct := fun σ H => De.ct (outS i σ) H }
def wCls (K : PySem.W.Frag) (Wout : WX) (De : Ends) : List Cl → WX
  | [] => Wout
  | c :: r => fun cls d σ H => ∃ b, PySem.W.exmAny K cls c.cs = some b ∧ (b = true → ∀ a, H a = none → c.ts a cls d (endS c.i De) (inS c.i a σ) H) ∧ (b = false → wCls K Wout De r cls d σ H)
def SuOk (X : Cx) (b0 : Stmt) (suite : List Stmt) (ts : Addr → Value → Option Addr → TS) : Prop := ∀ (a : Addr) (oe : Obj) (cls : Value) (d : Option Addr) (pn : List (Addr × Obj)), Zc cls d oe → (∃ vs, oe.data = .fields vs) → PSs (X.suite a ((a, oe) :: pn)) (b0 :: suite) (ts a cls d)
inductive ClsOk (X : Cx) : List ExceptHandler → List Cl → Prop
  | nil : ClsOk X [] []
  | one {ty : Expr} {c : Cl} {b0 : Stmt} {suite : List Stmt} {p : Pos} {hds : List ExceptHandler} {l : List Cl} (ht : TestOk X ty c.cs) (hi : c.i = none) (hsu : SuOk X b0 suite c.ts) (r : ClsOk X hds l) : ClsOk X (.ExceptHandler (some ty) none (b0 :: suite) p :: hds) (c :: l)
  | as {ty : Expr} {c : Cl} {b0 : Stmt} {suite : List Stmt} {p : Pos} {hds : List ExceptHandler} {l : List Cl} {n : Str} {i : Nat} (ht : TestOk X ty c.cs) (hi : c.i = some i) (hn : X.N[i]? = some n) (hln : X.env.kindOf n = some .local) (hsu : SuOk X b0 suite c.ts) (r : ClsOk X hds l) : ClsOk X (.ExceptHandler (some ty) (some n) (b0 :: suite) p :: hds) (c :: l)
section
variable {X : Cx} {body : List Stmt} {h0 : ExceptHandler} {hds : List ExceptHandler} {l : List Cl} {pos : Pos} {tb : WX → TS} {Wout : WX}
theorem flying_up {B h h1 : Heap} {l : List Env} {a : Addr} {Z : Obj → Prop} (f : HandSPX.FlyingZ B l a Z h) (k : ∀ b o, h.get? b = some o → h1.get? b = some o) : HandSPX.FlyingZ B l a Z h1 := by
  obtain ⟨f1, f2, f3, oe, vs, T, oT, ts, e1, e2, e3, e4, e5, e6, e7, e8, e9⟩ := f
  exact ⟨fun b o e => k b o (f1 b o e), f2, f3.of_keeps fun b o e _ => ⟨o, k b o e, rfl⟩, oe, vs, T, oT, ts, k _ _ e1, e2, e3, e4, e5, e6, k _ _ e7, e8, e9⟩
theorem ps_tryG (hs : X.stack = X.env :: X.outer) (hf : X.env.frame = some X.env.locals) (hN : X.N.Nodup) (tk : L2.Takes X Wout)
    (hb : ∀ (W : WX) (pn : List (Addr × Obj)) (xe : Value → Shared → Prop), L2.Takes (X.tr pn xe) W → PassesOwn (model X.prog X.w) X.A X.env xe → PSs (X.tr pn xe) body (tb W))
    (hh : ClsOk X (h0 :: hds) l) : PS X (.Try body (h0 :: hds) [] [] pos) (fun De σ H => tb (wCls X.K Wout De l) De σ H) := by
  refine ⟨fun pins s σ H De I h => wpAny_Try_except ?_⟩
  have ok := I.ok
  have fr : X.A.frames = some (X.env :: X.outer) := by rw [ok.frames, hs]
  refine wpAny_mono ((hb (wCls X.K Wout De l) (X.pn ++ pins) (fun e s1 => wpAny (model X.prog X.w) X.A (noteFrame e X.env) (fun _ s2 => wpAny (model X.prog X.w) X.A (setFlight e none) (fun _ s3 => wpAny (model X.prog X.w) X.A (handleBy e X.env (h0 :: hds)) (SP X pins De) X.xe s3) X.xe s2) X.xe s1)
    (fun u s' xx => ?_) PassesOwn.looking).run [] s σ H De (I.toTry _) h) (fun f s1 hsp => ?_) (fun e s1 he => he)
  · obtain ⟨a, B, sI, pins', σ', H', cls, d, rfl, J', nb, up, sky, na, os, ag, w⟩ := xx
    have J : Inv X pins σ' H' sI := J'.ofTry ok
    have sky1 : Sky B (X.env :: X.outer) a (Zc cls d) X.env.locals s'.heap := by rw [← hs]; exact sky
    show wpAny (model X.prog X.w) X.A (noteFrame (.ref a) X.env) _ _ _
    refine Sky.land Zc.steady fr hf sky1 fun h3 fl3 up3 => ?_
    -- the clauses, one after the other
    have go : ∀ {hd : List ExceptHandler} {lc : List Cl}, ClsOk X hd lc → wCls X.K Wout De lc cls d σ' H' → ∀ h4 : Heap, HandSPX.FlyingZ B (X.env :: X.outer) a (Zc cls d) h4 → sI.heap.UpToSlots h4 →
        wpAny (model X.prog X.w) X.A (handleBy (.ref a) X.env hd) (SP X pins De) X.xe { s' with heap := h4 } := by
      have base : ∀ h4 : Heap, HandSPX.FlyingZ B (X.env :: X.outer) a (Zc cls d) h4 → sI.heap.UpToSlots h4 → ∃ (oe : Obj), h4.get? a = some oe ∧ Zc cls d oe ∧ (∃ vs, oe.data = .fields vs) ∧ Inv X pins σ' H' { s' with heap := h4 } ∧ Inv (X.suite a ((a, oe) :: (X.pn ++ pins))) [] σ' H' { s' with heap := h4 } := by
        intro h4 fl4 up4
        have J4 : Inv X pins σ' H' { s' with heap := h4 } := J.landed nb fl4.1 up4 os ag
        obtain ⟨oe, vs, he, hz, hd⟩ := fl4.there
        have nfr : a ∉ frs (X.env :: X.outer) := fun hm => by
          obtain ⟨_, o', e', hnf⟩ := fl4.2.2.1.mem hm
          rw [he] at e'
          cases e'
          exact hnf _ hd
        refine ⟨oe, he, hz, ⟨vs, hd⟩, J4, J4.suite he hd na (fun z => nfr (List.mem_filterMap.mpr ⟨X.env, List.mem_cons_self, by rw [hf, z]⟩)) fun hm => ?_⟩
        obtain ⟨e, he', q⟩ := List.mem_filterMap.mp hm
        exact nfr (List.mem_filterMap.mpr ⟨e, List.mem_cons_of_mem _ he', q⟩)
      intro hd lc hk
      induction hk with
      | nil =>
        intro w h4 fl4 up4
        refine wpAny_handleBy_nil ?_
        obtain ⟨k1, k2, k3, oe, vs, T, oT, ts', he, hz, hd, h1, hr⟩ := id fl4
        unfold PySem.passOn
        refine wpAny_bind (wpAny_field he hd h1 ?_)
        rw [if_neg (show ¬ ((Value.ref T == Value.none) = true) from by simp)]
        have fin : wpAny (model X.prog X.w) X.A (setFlight (.ref a) X.env.frame) (fun _ s4 => wpAny (model X.prog X.w) X.A (throw (.ref a) : Sem Flow) (SP X pins De) X.xe s4) X.xe { s' with heap := h4 } := by
          rw [hf]
          exact HandSPX.setFlight_upZ fl4 fun h5 hh5 up5 => wpAny_throw (tk _ _ ⟨a, B, sI, pins, σ', H', cls, d, rfl, J, nb, up4.trans up5, .inr (.inr (by rw [hs]; exact hh5)), na, os, ag, w⟩)
        first
          | exact wpAny_bind (wpAny_pure (wpAny_bind fin))
          | exact wpAny_bind fin
      | @one ty c b0 suite p hd2 l2 ht hi hsu r ih =>
        intro w h4 fl4 up4
        obtain ⟨b, hb1, hyes, hno⟩ := w
        obtain ⟨oe, he, hz, hd, J4, S4⟩ := base h4 fl4 up4
        refine wpAny_handleBy_cons (codeAny_handlers_test (ht a oe _ [] σ' H' _ _ _ S4 fun h5 v k5 T5 => ?_)) (by intro q; cases q)
        have fl5 := flying_up fl4 k5
        have up5 : sI.heap.UpToSlots h5 := up4.trans fun b o e _ => ⟨o.slots, k5 b o e⟩
        have LT : PySem.W.Looks (model X.prog X.w) h5 (typeOf (.ref a)) cls := fun A Q E s k q => wpAny_typeOf_ref (k _ _ (k5 _ _ he)) (by rw [hz.1]; exact q)
        refine (T5 cls a b (J4.kIn.keeps k5) LT hb1).here ?_
        cases b with
        | true =>
          refine codeAny_handlers_suite (HandSPX.lands_againZ fl5 fun h6 fl6 up6 => ?_)
          obtain ⟨oe6, he6, hz6, hd6, J6, S6⟩ := base h6 fl6 (up5.trans up6)
          have q0 := hyes rfl a na
          rw [hi] at q0
          refine wpAny_mono ((hsu a oe6 cls d (X.pn ++ pins) hz6 hd6).run [] _ _ H' _ S6 q0) (fun f s6 hsp => ?_) (fun _ _ z => False.elim z)
          cases f with
          | next => obtain ⟨σ7, H7, S7, q7⟩ := hsp; exact ⟨_, _, S7.unsuite ok, q7⟩
          | brk => obtain ⟨σ7, H7, S7, q7⟩ := hsp; exact ⟨_, _, S7.unsuite ok, q7⟩
          | cont => obtain ⟨σ7, H7, S7, q7⟩ := hsp; exact ⟨_, _, S7.unsuite ok, q7⟩
          | ret u => obtain ⟨v7, σ7, H7, S7, r7, q7⟩ := hsp; exact ⟨_, _, _, S7.unsuite ok, r7, q7⟩
        | false =>
          show wpAny _ X.A (handleBy (.ref a) X.env hd2) _ _ _
          exact ih (hno rfl) h5 fl5 up5
      | @as ty c b0 suite p hd2 l2 n i ht hi hn hln hsu r ih =>
        intro w h4 fl4 up4
        obtain ⟨b, hb1, hyes, hno⟩ := w
        obtain ⟨oe, he, hz, hd, J4, S4⟩ := base h4 fl4 up4
        refine wpAny_handleBy_cons (codeAny_handlers_test (ht a oe _ [] σ' H' _ _ _ S4 fun h5 v k5 T5 => ?_)) (by intro q; cases q)
        have fl5 := flying_up fl4 k5
        have up5 : sI.heap.UpToSlots h5 := up4.trans fun b o e _ => ⟨o.slots, k5 b o e⟩
        have LT : PySem.W.Looks (model X.prog X.w) h5 (typeOf (.ref a)) cls := fun A Q E s k q => wpAny_typeOf_ref (k _ _ (k5 _ _ he)) (by rw [hz.1]; exact q)
        refine (T5 cls a b (J4.kIn.keeps k5) LT hb1).here ?_
        cases b with
        | true =>
          refine codeAny_handlers_suite_as (HandSPX.lands_againZ fl5 fun h6 fl6 up6 => ?_)
          obtain ⟨oe6, he6, hz6, hd6, J6, S6⟩ := base h6 fl6 (up5.trans up6)
          have q0 := hyes rfl a na
          rw [hi] at q0
          refine store_ok (X := X.suite a ((a, oe6) :: (X.pn ++ pins))) (v := .ref a) S6 hN hn (.inl hln) rfl (fun s7 S7 => ?_) (.inr hln)
          refine wpAny_mono ((hsu a oe6 cls d (X.pn ++ pins) hz6 hd6).run [] s7 _ H' _ S7 q0) (fun f s8 hsp => ?_) (fun _ _ z => False.elim z)
          have fin : ∀ {σ9 : L2.St} {H9 : Hp} {Q : Shared → Prop}, Inv (X.suite a ((a, oe6) :: (X.pn ++ pins))) [] σ9 H9 s8 → (∀ s9, Inv X pins (σ9.set i none) H9 s9 → Q s9) → wpAny (model X.prog X.w) X.A (do bindName X.env n .none; unbindBehindTheSuite X.env n p) (fun _ s9 => Q s9) X.xe s8 :=
            fun {σ9 H9 Q} S9 hq => gone_ok (S9.unsuite ok) hN hn hln hq
          cases f with
          | next => obtain ⟨σ9, H9, S9, q9⟩ := hsp; exact fin S9 fun s9 J9 => ⟨_, _, J9, q9⟩
          | brk => obtain ⟨σ9, H9, S9, q9⟩ := hsp; exact fin S9 fun s9 J9 => ⟨_, _, J9, q9⟩
          | cont => obtain ⟨σ9, H9, S9, q9⟩ := hsp; exact fin S9 fun s9 J9 => ⟨_, _, J9, q9⟩
          | ret u => obtain ⟨v9, σ9, H9, S9, r9, q9⟩ := hsp; exact fin S9 fun s9 J9 => ⟨_, _, _, J9, r9, q9⟩
        | false =>
          show wpAny _ X.A (handleBy (.ref a) X.env hd2) _ _ _
          exact ih (hno rfl) h5 fl5 up5
    exact go hh w h3 fl3 (up.trans up3)
  · cases f with
    | next => obtain ⟨σ', H', J', q⟩ := hsp; exact wpAny_execs_nil ⟨σ', H', J'.ofTry ok, q⟩
    | brk => obtain ⟨σ', H', J', q⟩ := hsp; exact ⟨σ', H', J'.ofTry ok, q⟩
    | cont => obtain ⟨σ', H', J', q⟩ := hsp; exact ⟨σ', H', J'.ofTry ok, q⟩
    | ret u => obtain ⟨v, σ', H', J', r, q⟩ := hsp; exact ⟨v, σ', H', J'.ofTry ok, r, q⟩
end
end Q
end

section
set_option Elab.async false
set_option linter.all false
set_option maxRecDepth 100000
set_option maxHeartbeats 1000000
set_option autoImplicit false
/-! try by data; what an except suite reads of the exception that it holds. -/
namespace Q
open PySem PySem.Spec PyProof.Rows L2
/-- a clause by data: the classes, the slot behind as, the suite -/
abbrev Hd := List Nat × Option Nat × (Nat → D → Ev → Sto → SR)
def setO (i : Option Nat) (x : Option D) (env : Ev) : Ev := match i with
  | some i => env.set i x
  | none => env
def isX : Option D → Bool
  | some (.exo 0) => true
  | _ => false
def clean (env : Ev) : Bool := env.all fun d => !isX d
/-- behind a suite the slot of as is empty -/
def leaveS (i : Option Nat) (r : SR) : SR := match r with
  | .nx e s => if clean (setO i none e) = true then .nx (setO i none e) s else .err
  | .bk e s => if clean (setO i none e) = true then .bk (setO i none e) s else .err
  | .ct e s => if clean (setO i none e) = true then .ct (setO i none e) s else .err
  | .rt d s => .rt d s
  | _ => .err
def handle (sub : Nat → Nat → Bool) (c : Nat) (d : D) (e : Ev) (s : Sto) : List Hd → SR
  | [] => .exc c d e s
  | (cs, i, F) :: r => if cs.any (sub c) = true then leaveS i (F c d (setO i (some (.exo 0)) e) s) else handle sub c d e s r
def tryF (sub : Nat → Nat → Bool) (Fb : Ev → Sto → SR) (hs : List Hd) (env : Ev) (st : Sto) : SR := match Fb env st with
  | .exc c d e s => handle sub c d e s hs
  | r => r
def inX (P : Par) (a dd : Addr) (c : Nat) (d : D) : Par := { P with XV := [(dd, P.FN c, d)], xa := fun k => if k = 0 then some a else P.xa k }
abbrev W0 : WX := fun _ _ _ _ => False
def clOf (K : PySem.W.Frag) (P : Par) (h : Hd) : Cl := ⟨h.1.map fun c => .ref (P.CA c), h.2.1, fun a cls d De σ H => ∃ c0 dd d0, cls = .ref (P.CA c0) ∧ d = some dd ∧ tS K (inX P a dd c0 d0) W0 (h.2.2 c0 d0) De σ H⟩
section
variable {K : PySem.W.Frag} {P : Par} {M : List Addr} {H : Hp} {σ : L2.St} {env : Ev} {st : Sto}
theorem clean_no {i : Nat} (h : clean env = true) (e : env[i]? = some (some (.exo 0))) : False := by
  have := List.all_eq_true.mp h _ (List.mem_of_getElem? e)
  simp [isX] at this
theorem EvR.noX (h : EvR K P M H σ env) (hx : P.xa 0 = none) {i : Nat} (e : env[i]? = some (some (.exo 0))) : False := by
  obtain ⟨v, _, h2⟩ := h.2 i _ e
  obtain ⟨a, ha, _⟩ : ∃ a, P.xa 0 = some a ∧ v = .ref a := h2
  rw [hx] at ha
  cases ha
theorem dvx_of {P P' : Par} {d : D} {v : V} (hp : ∀ k, k ≠ 0 → P'.xa k = P.xa k) (h : DVx K P M H d v) (n : d ≠ .exo 0) : DVx K P' M H d v := by
  unfold DVx at h ⊢
  split
  · rename_i k
    obtain ⟨a, h1, h2⟩ := h
    exact ⟨a, by rw [hp k fun z => n (by rw [z])]; exact h1, h2⟩
  · rename_i z
    split at h
    · rename_i k; exact (z k rfl).elim
    · exact h
theorem EvR.swap {P' : Par} (hp : ∀ k, k ≠ 0 → P'.xa k = P.xa k) (h : EvR K P M H σ env) (n : ∀ i : Nat, env[i]? ≠ some (some (D.exo 0))) : EvR K P' M H σ env := ⟨h.1, fun i d e => by
  obtain ⟨v, h1, h2⟩ := h.2 i d e
  exact ⟨v, h1, dvx_of hp h2 fun z => n i (by rw [e, z])⟩⟩
theorem inX_xa {a dd : Addr} {c : Nat} {d : D} : ∀ k, k ≠ 0 → (inX P a dd c d).xa k = P.xa k := fun k hk => if_neg hk
theorem EvR.none (h : EvR K P M H σ env) (i : Nat) : EvR K P M H (σ.set i none) (env.set i none) := by
  refine ⟨by rw [List.length_set, List.length_set]; exact h.1, fun j d e => ?_⟩
  by_cases hj : i = j
  · subst hj
    rw [List.getElem?_set] at e
    simp at e
  · rw [List.getElem?_set_ne hj] at e
    rw [List.getElem?_set_ne hj]
    exact h.2 j d e
theorem EvR.exoIn {a dd : Addr} {c : Nat} {d : D} (h : EvR K P M H σ env) (hx : P.xa 0 = .none) (i : Option Nat) : EvR K (inX P a dd c d) M H (inS i a σ) (setO i (some (.exo 0)) env) := by
  cases i with
  | none => exact h.swap inX_xa fun j e => h.noX hx e
  | some i =>
    refine ⟨by simp only [inS, setO, List.length_set]; exact h.1, fun j d' e => ?_⟩
    simp only [setO] at e
    simp only [inS]
    by_cases hj : i = j
    · subst hj
      have hl : i < env.length := by
        have := (List.getElem?_eq_some_iff.mp e).1
        rwa [List.length_set] at this
      rw [List.getElem?_set_self hl] at e
      cases e
      exact ⟨_, List.getElem?_set_self (by rw [← h.1]; exact hl), a, rfl, rfl⟩
    · rw [List.getElem?_set_ne hj] at e
      rw [List.getElem?_set_ne hj]
      obtain ⟨v, h1, h2⟩ := h.2 j d' e
      exact ⟨v, h1, dvx_of inX_xa h2 fun z => h.noX hx (i := j) (by rw [e, z])⟩
theorem EvR.exoOut {a dd : Addr} {c : Nat} {d : D} {i : Option Nat} (h : EvR K (Q.inX P a dd c d) M H σ env) (hc : clean (setO i .none env) = true) : EvR K P M H (outS i σ) (setO i .none env) := by
  cases i with
  | none => exact h.swap (fun k hk => (inX_xa k hk).symm) fun j e => clean_no hc e
  | some i => exact (h.none i).swap (fun k hk => (inX_xa k hk).symm) fun j e => clean_no hc e
theorem At.inX {a dd : Addr} {c : Nat} {d : D} {v : V} (h : At K P M H st) (e : H dd = some (.xd [(P.FN c, v)])) (r : DV K M H d v) : At K (inX P a dd c d) M H st :=
  ⟨h.rel, h.tab, fun q hq => by
    obtain rfl : q = (dd, P.FN c, d) := by simpa [Q.inX] using hq
    exact ⟨v, e, r⟩, h.sup⟩
theorem At.ofX {a dd : Addr} {c : Nat} {d : D} (h : At K (Q.inX P a dd c d) M H st) (hv : P.XV = []) : At K P M H st := ⟨h.rel, h.tab, fun q hq => (by rw [hv] at hq; cases hq), h.sup⟩
end
section
variable {X : Cx} {P : Par} {W : WX} {body : List Stmt} {h0 : ExceptHandler} {hds : List ExceptHandler} {pos : Pos} {Fb : Ev → Sto → SR} {sub : Nat → Nat → Bool}
theorem any_sub {c : Nat} (hsub : ∀ a b, PySem.W.exmOne X.K (.ref (P.CA a)) (.ref (P.CA b)) = some (sub a b)) : ∀ cs : List Nat, PySem.W.exmAny X.K (.ref (P.CA c)) (cs.map fun c => .ref (P.CA c)) = some (cs.any (sub c))
  | [] => rfl
  | b :: r => by
    rw [List.map_cons, List.any_cons]
    unfold PySem.W.exmAny
    rw [hsub c b, any_sub hsub r]
theorem leave_ok {K : PySem.W.Frag} {M1 : List Addr} {H1 : Hp} {De : Ends} {r : SR} {a dd : Addr} {c : Nat} {d : D} {i : Option Nat} (hv : P.XV = []) (h : PostS K P W M1 H1 (leaveS i r) De) : PostS K (inX P a dd c d) W0 M1 H1 r (endS i De) := by
  cases r with
  | nx e s =>
    simp only [leaveS] at h
    split at h
    · rename_i hc; exact fun σ' M' H' s1 a1 e1 => h _ M' H' s1 (a1.ofX hv) (e1.exoOut hc)
    · exact h.elim
  | bk e s =>
    simp only [leaveS] at h
    split at h
    · rename_i hc; exact fun σ' M' H' s1 a1 e1 => h _ M' H' s1 (a1.ofX hv) (e1.exoOut hc)
    · exact h.elim
  | ct e s =>
    simp only [leaveS] at h
    split at h
    · rename_i hc; exact fun σ' M' H' s1 a1 e1 => h _ M' H' s1 (a1.ofX hv) (e1.exoOut hc)
    · exact h.elim
  | rt d s => exact fun v M' H' s1 a1 r1 => h v M' H' s1 (a1.ofX hv) r1
  | exc c d e s => exact h.elim
  | err => exact h.elim
theorem handle_ok {De : Ends} {M1 : List Addr} {H1 : Hp} {c : Nat} {d : D} {e : Ev} {s : Sto} {σ1 : L2.St} {dd : Addr} {v : V} (hsub : ∀ a b, PySem.W.exmOne X.K (.ref (P.CA a)) (.ref (P.CA b)) = some (sub a b)) (hv : P.XV = []) (hx : P.xa 0 = none) (a1 : At X.K P M1 H1 s) (e1 : EvR X.K P M1 H1 σ1 e) (r1 : DV X.K M1 H1 d v) (x1 : H1 dd = some (.xd [(P.FN c, v)])) :
    ∀ hs : List Hd, PostS X.K P W M1 H1 (handle sub c d e s hs) De → (handle sub c d e s hs = .exc c d e s → W (.ref (P.CA c)) (some dd) σ1 H1) → wCls X.K W De (hs.map (clOf X.K P)) (.ref (P.CA c)) (some dd) σ1 H1
  | [], _, k => k rfl
  | (cs, i, F) :: hs, h, k => by
    refine ⟨_, any_sub hsub cs, fun hb a na => ?_, fun hb => ?_⟩
    · refine ⟨c, dd, d, rfl, rfl, M1, _, s, e1.exoIn hx i, a1.inX x1 r1, ?_⟩
      rw [handle, if_pos hb] at h
      exact leave_ok hv h
    · rw [handle, if_neg (by rw [hb]; exact Bool.false_ne_true)] at h k
      exact handle_ok hsub hv hx a1 e1 r1 x1 hs h k
/-- once raised and not caught, it is still what was raised -/
theorem handle_exc {c : Nat} {d : D} {e : Ev} {s : Sto} : ∀ {hs : List Hd} {c' : Nat} {d' : D} {e' : Ev} {s' : Sto}, handle sub c d e s hs = .exc c' d' e' s' → c' = c ∧ d' = d ∧ e' = e ∧ s' = s
  | [], _, _, _, _, h => by cases h; exact ⟨rfl, rfl, rfl, rfl⟩
  | (cs, i, F) :: hs, c', d', e', s', h => by
    rw [handle] at h
    split at h
    · unfold leaveS at h
      split at h
      · split at h <;> cases h
      · split at h <;> cases h
      · split at h <;> cases h
      · cases h
      · cases h
    · exact handle_exc h
theorem q_try {hs : List Hd} (hst : X.stack = X.env :: X.outer) (hf : X.env.frame = some X.env.locals) (hN : X.N.Nodup) (tk : L2.Takes X W) (hsub : ∀ a b, PySem.W.exmOne X.K (.ref (P.CA a)) (.ref (P.CA b)) = some (sub a b)) (hv : P.XV = []) (hx : P.xa 0 = none)
    (hb : ∀ (W : WX) (pn : List (Addr × Obj)) (xe : Value → Shared → Prop), L2.Takes (X.tr pn xe) W → PassesOwn (model X.prog X.w) X.A X.env xe → PSs (X.tr pn xe) body (tS X.K P W Fb)) (hh : ClsOk X (h0 :: hds) (hs.map (clOf X.K P))) :
    PS X (.Try body (h0 :: hds) [] [] pos) (tS X.K P W (tryF sub Fb hs)) := by
  refine ⟨fun pins s σ H De I h => (ps_tryG (tb := fun W => tS X.K P W Fb) hst hf hN tk hb hh).run pins s σ H De I ?_⟩
  obtain ⟨M, env, st, sl, at_, p⟩ := h
  refine ⟨M, env, st, sl, at_, ?_⟩
  unfold tryF at p
  cases e1 : Fb env st with
  | exc c d e s1 =>
    rw [e1] at p
    intro dd v σ1 M1 H1 s2 a1 ev1 r1 x1
    refine handle_ok hsub hv hx a1 ev1 r1 x1 hs (PostS.step s2 p) fun he => ?_
    dsimp only at p
    rw [he] at p
    exact p dd v σ1 M1 H1 s2 a1 ev1 r1 x1
  | nx e s1 => rw [e1] at p; exact p
  | bk e s1 => rw [e1] at p; exact p
  | ct e s1 => rw [e1] at p; exact p
  | rt d s1 => rw [e1] at p; exact p
  | err => rw [e1] at p; exact p
/-- a suite keeps what its clause says -/
theorem su_ok {b0 : Stmt} {suite : List Stmt} {h : Hd} (k : ∀ (a dd : Addr) (oe : Obj) (c0 : Nat) (d0 : D) (pn : List (Addr × Obj)), Zc (.ref (P.CA c0)) (some dd) oe → (∃ vs, oe.data = .fields vs) → PSs (X.suite a ((a, oe) :: pn)) (b0 :: suite) (tS X.K (inX P a dd c0 d0) W0 (h.2.2 c0 d0))) :
    SuOk X b0 suite (clOf X.K P h).ts := by
  intro a oe cls d pn hz hd
  refine ⟨fun pins s σ H De I hh => ?_⟩
  obtain ⟨c0, dd, d0, rfl, rfl, q⟩ := hh
  exact (k a dd oe c0 d0 pn hz hd).run pins s σ H De I q
/-- what the written part says of the classes of exceptions, for reading their field -/
structure ExG (K : PySem.W.Frag) (C : Addr) (f : Str) : Prop where
  ga : PySem.W.findIn K (.ref C) "__getattribute__" = some (some (.builtin "BaseException.__getattribute__"))
  gg : PySem.W.findIn K (.ref C) "__getattr__" = some none
  noN : PySem.W.findIn K (.ref C) f = some none
  exC : PySem.W.subIn K (.ref C) (.type "BaseException") = some true
  hdC : PySem.W.hasDictIn K C = true
/-- e.f in a suite -/
def thingF (i : Nat) (ok : Bool) (d0 : D) (env : Ev) (st : Sto) : Res D := match env[i]?, ok with
  | some (some (.exo 0)), true => .ok d0 st
  | _, _ => .err
theorem q_thing {a dd : Addr} {oe : Obj} {c0 i : Nat} {d0 : D} {pn : List (Addr × Obj)} {n f : Str} {p0 p1 : Pos} {ok : Bool} (G : ExG X.K (P.CA c0) (P.FN c0)) (hok : ok = true → f = P.FN c0) (hz : Zc (.ref (P.CA c0)) (some dd) oe) (hd : ∃ vs, oe.data = .fields vs)
    (hN : X.N[i]? = some n) (hvi : Vis X.env.scope n) (hdb : (n == ("__debug__" : Str)) = false) (hcd : (n == ("__classdict__" : Str)) = false) (hb : attributeBase (.Name n p0) f X.env (eval (.Name n p0) X.env) = eval (.Name n p0) X.env) :
    PE (X.suite a ((a, oe) :: pn)) (.Attribute (.Name n p0) f p1) (tE X.K (inX P a dd c0 d0) W (thingF i ok d0)) := by
  refine ⟨fun pins s σ H Q I h => ?_⟩
  obtain ⟨M, env, st, sl, at_, p⟩ := h
  have hi : env[i]? = some (some (.exo 0)) ∧ ok = true ∧ thingF i ok d0 env st = .ok d0 st := by
    unfold thingF at p ⊢
    split
    · rename_i e; exact ⟨e, rfl, rfl⟩
    · rename_i z
      split at p
      · rename_i e; exact absurd rfl (z e)
      · exact p.elim
  obtain ⟨hi, hok1, he⟩ := hi
  rw [he] at p
  obtain rfl := hok hok1
  obtain ⟨v0, hv0, hx0⟩ := sl.2 i _ hi
  obtain ⟨a', ha', rfl⟩ : ∃ a', (inX P a dd c0 d0).xa 0 = some a' ∧ v0 = .ref a' := hx0
  cases ha'
  refine attr_of hb (thn ((pe_var (X := X.suite a ((a, oe) :: pn)) hN hvi hdb hcd).run pins s σ H (fun x H1 => x = .ref a ∧ H1 = H) I ⟨_, hv0, rfl, rfl⟩) fun u s1 hh => ?_)
  obtain ⟨x, H1, I1, rx, rfl, rfl⟩ := hh
  obtain rfl : u = Value.ref a := rx
  obtain ⟨v, ea, rd⟩ := at_.exn (dd, P.FN c0, d0) (by simp [inX])
  obtain ⟨ha, _⟩ := I1.pin (a, oe) (List.mem_append_left _ List.mem_cons_self)
  obtain ⟨vs, hdd⟩ := hd
  have hx : ObjOk X.prog X.w H1 s1.heap dd (.xd [(P.FN c0, v)]) := I1.hok dd _ ea
  obtain ⟨mA, hns, hr⟩ := hx
  obtain ⟨od, ho, hl⟩ := lookIn_ns hns
  have l : List.lookup (P.FN c0) [(P.FN c0, v)] = some v := by simp [List.lookup]
  obtain ⟨u2, hu, ru⟩ := RelO.some_of (v := v) (o := mA (P.FN c0)) (by rw [← l]; exact hr _)
  have J : PySem.W.InstAt s1.heap a oe (P.CA c0) (some od) := ⟨ha, hz.1, by unfold PySem.W.notCls; rw [hdd] <;> rfl, by rw [hz.2]; exact ho⟩
  exact HandSPX.exc_get I1.kIn J G.ga G.gg G.exC (PySem.W.findObj_own G.hdC G.noN rfl (by rw [hl, hu])) (handed_of ru) ⟨v, H1, I1.tok _, ru, p v M H1 (Stp.refl _ _) at_ rd⟩
end
end Q
end

section
set_option Elab.async false
set_option linter.all false
set_option maxRecDepth 100000
set_option maxHeartbeats 1000000
set_option autoImplicit false
/-! A lambda without parameters handed to a def, by data. -/
namespace Q
open PySem PySem.Spec PyProof.Rows L2
/-- x(), x the parameter that holds what was handed over -/
def thF (th : Sto → Res D) (env : Ev) (st : Sto) : Res D := match (env[0]? : Option (Option D)) with
  | some (some (.exo 1)) => th st
  | _ => .err
def ThOk (X : Cx) (P : Par) (a : Str) (th : Sto → Res D) : Prop := ∀ (W : WX) (pn : List (Addr × Obj)) (xe : Value → Shared → Prop) (p1 p2 : Pos), L2.Takes (X.tr pn xe) W → PE (X.tr pn xe) (.Call (.Name a p1) [] [] p2) (tE X.K P W (thF th))
/-- the slots of the def that got it -/
def envL (n : Nat) : Ev := (env0 n []).set 0 (some (.exo 1))
abbrev lamP (P : Par) (M : List Addr) (H : Hp) (f : Addr) : Par := { P with SB := (M, H) :: P.SB, xa := fun k => if k = 1 then some f else none }
section
variable {X : Cx} {P : Par} {W : WX} {pins : List (Addr × Obj)} {σ : L2.St} {H H1 : Hp} {s s1 : Shared} {M : List Addr} {st : Sto} {env : Ev} {Fl : Ev → Sto → Res D}
theorem Post.par {α β : Type} {K : PySem.W.Frag} {P P' : Par} {M : List Addr} {H : Hp} {R : List Addr → Hp → α → β → Prop} {Wx : Value → Option Addr → Hp → Prop} {Q : β → Hp → Prop} {r : Res α} (hc : P'.CA = P.CA) (hf : P'.FN = P.FN)
    (k : ∀ M' H' st', Stp M H M' H' → At K P M' H' st' → At K P' M' H' st') (h : Post K P' M H R Wx r Q) : Post K P M H R Wx r Q := by
  cases r with
  | ok a st' => exact fun b M' H' s a q => h b M' H' s (k _ _ _ s a) q
  | exc c d st' =>
    intro dd v M' H' s a q x
    have z := h dd v M' H' s (k _ _ _ s a) q (by rw [hf]; exact x)
    rw [hc] at z
    exact z
  | err => exact h
theorem PostS.par {K : PySem.W.Frag} {P P' : Par} {M : List Addr} {H : Hp} {r : Res D} {Q : VK} {r' : SR} (hc : P'.CA = P.CA) (hf : P'.FN = P.FN) (hr : ofSR r' = r)
    (k : ∀ M' H' st', At K P' M' H' st' → At K P M' H' st') {E : XK} (h : Post K P M H (DV K) E r Q) : PostS K P' (fun c d _ H => E c d H) M H r' { nx := fun _ H' => Q .non H', rt := Q } := by
  subst hr
  cases r' with
  | nx e s => exact fun σ' M' H' s1 a1 _ => h .non M' H' s1 (k _ _ _ a1) (dv_non.mpr rfl)
  | rt d s => exact fun v M' H' s1 a1 r1 => h v M' H' s1 (k _ _ _ a1) r1
  | exc c d e s =>
    intro dd v σ' M' H' s1 a1 _ r1 x
    have z := h dd v M' H' s1 (k _ _ _ a1) r1 (by rw [← hf]; exact x)
    rw [← hc] at z
    exact z
  | bk e s => exact h.elim
  | ct e s => exact h.elim
  | err => exact h.elim
theorem evr_lam {K : PySem.W.Frag} {N : List Str} {f : Addr} (hN : 0 < N.length) : EvR K (lamP P M H f) M H (L2.start N [.ref f]) (envL N.length) := by
  unfold envL env0 L2.start
  refine ⟨by simp; omega, fun i d e => ?_⟩
  cases i with
  | zero =>
    have hl : 0 < (List.map some ([] : List D) ++ List.replicate (N.length - ([] : List D).length) none).length := by simpa using hN
    rw [List.getElem?_set_self hl] at e
    cases e
    exact ⟨.ref f, rfl, f, rfl, rfl⟩
  | succ i =>
    rw [List.getElem?_set_ne (by omega)] at e
    rw [List.map_nil, List.nil_append, List.getElem?_replicate] at e
    split at e <;> cases e
theorem q_act {Ng : List Str} {qg : Str} {sg : Scope} {g f c' : Addr} {cdg pm ctv : Value} {params : Arguments} {body : Expr} {scope : Scope} {k : Nat} {a : Str} {pn : List (Addr × Obj)} {xe : Value → Shared → Prop} {Wz : WX} {E0 : XK} {p1 p2 : Pos}
    (I : Inv X pins σ H1 s) (sl : EvR X.K P M H1 σ env) (mk : MOk M H1) (L : LamX.LamS X.env.scope scope) (hf : s.heap.get? f = some (PySem.W.kla_obj "<lambda>" (X.env.qual ++ "<lambda>") params body scope (cloFrom X.env.cells scope.names []) pm c' ctv)) (hfn : H1 f = none) (hfr : f ∉ frs X.stack) (hco : H1 c' = some (LamX.CodeO c' (X.env.qual ++ "<lambda>")))
    (hbind : bindArgs (PySem.W.kla_fn "<lambda>" (X.env.qual ++ "<lambda>") params body scope (cloFrom X.env.cells scope.names []) pm (.ref c') ctv) ⟨[], []⟩ = pure []) (tk : L2.Takes ((cxOf (L2.CX X.prog X.w) X.prog X.w X.K X.mg X.base Ng qg sg g cdg X.A X.stack s H1 E0).tr pn xe) Wz)
    (hr : Room (k + 1) (X.A.deeper (envOfC qg sg s.heap.objs.size g cdg))) (hgd : X.A.guards = some [])
    (hbody : ∀ (A : Around) (outer : List Env) (s : Shared) (H : Hp) (E : XK), Room k (A.deeper (LamX.lamEnv X scope s.heap.objs.size f c')) → A.guards = some [] → PE (LamX.lamCx X A outer s H E scope f c') body (tE X.K P (fun c d _ H => E c d H) Fl))
    (hN : Ng[0]? = some a) (hv : Vis sg a) (hd : (a == ("__debug__" : Str)) = false) (hcd : (a == ("__classdict__" : Str)) = false) :
    PE ((cxOf (L2.CX X.prog X.w) X.prog X.w X.K X.mg X.base Ng qg sg g cdg X.A X.stack s H1 E0).tr pn xe) (.Call (.Name a p1) [] [] p2) (tE X.K (lamP P M H1 f) Wz (thF fun st => Fl env st)) := by
  refine ⟨fun pinsZ sZ σZ HZ Q IZ h => ?_⟩
  obtain ⟨MZ, envZ, stZ, slZ, atZ, pZ⟩ := h
  have h0 : envZ[0]? = some (some (.exo 1)) ∧ thF (fun st => Fl env st) envZ stZ = Fl env stZ := by
    unfold thF at pZ ⊢
    split at pZ
    · rename_i e; exact ⟨e, rfl⟩
    · exact pZ.elim
  obtain ⟨h0, he⟩ := h0
  rw [he] at pZ
  obtain ⟨v0, hs, f', hf', rfl⟩ := slZ.2 0 _ h0
  obtain rfl : f = f' := by
    have : (if (1 : Nat) = 1 then some f else none) = some f' := hf'
    rw [if_pos rfl] at this
    exact Option.some.inj this
  obtain ⟨stp, _⟩ := atZ.sup (M, H1) (List.mem_cons_self ..)
  have hc : HZ c' = some (LamX.CodeO c' (X.env.qual ++ "<lambda>")) := stp.keep c' _ hco (mk.not hco (by unfold LamX.CodeO; rintro (⟨_, h⟩ | ⟨_, h⟩ | ⟨_, h⟩) <;> cases h)) LamX.codeO_ne
  have ht : tE X.K P (fun c d _ H => Wz c d σZ H) Fl σ HZ Q := ⟨MZ, env, stZ, sl.mono mk stp, atZ.drop, Post.par (P' := lamP P M H1 f) rfl rfl (fun M' H' st' s' a' => a'.back (stp.trans s') mk) pZ⟩
  refine wpAny_Call_Name_kw (thn ((pe_var (pos := p1) (i := 0) hN hv hd hcd).run pinsZ sZ σZ HZ (fun v H1 => v = .ref f ∧ H1 = HZ) IZ ⟨.ref f, hs, rfl, rfl⟩) fun u s1 ⟨v, H2, I1, r1, q1⟩ => ?_)
  obtain ⟨ev, eH⟩ := q1
  subst ev
  rw [eH] at I1
  obtain rfl : u = Value.ref f := r1
  have of1 : s1.heap.get? f = some (PySem.W.kla_obj "<lambda>" (X.env.qual ++ "<lambda>") params body scope (cloFrom X.env.cells scope.names []) pm c' ctv) := I1.base.keep f _ hf hfn hfr (fun z => nomatch (show f ∈ ([] : List Addr) from z))
  refine PySem.W.callWith_F0 ⟨_, _, _, _, of1⟩ ?_
  have un : Un (frs X.stack) [] H1 HZ s.heap s1.heap := I1.base
  obtain ⟨⟨oc, vs, t, hoc, hdc, hvc⟩, _, _⟩ := I1.hok c' _ hc
  have rc : codeAny (model X.prog X.w) (X.A.deeper (envOfC qg sg s.heap.objs.size g cdg)) (.call (.ref f) ⟨[], []⟩) (CR (L2.CX X.prog X.w) (envOfC qg sg s.heap.objs.size g cdg :: X.stack) X.prog X.w HZ s1 Q (fun c d H => Wz c d σZ H)) s1 := by
    refine PySem.W.kla_callFunE hr.depth of1 rfl L.co L.gen rfl ⟨c', oc, vs, t, rfl, hoc, hdc, hvc⟩ ?_
    rw [hbind]
    refine wpAny_pure (wpAny_newFunctionEnv (fun y hy => (L.own y hy).2) (fun y hy => absurd hy (by simp)) (fun h₁ hns hsb => ⟨I1.nolimit.fresh _ hsb, ?_⟩) L.kind)
    show codeAny _ _ (.expr body (LamX.lamEnv X scope s1.heap.objs.size f c')) _ _
    have kp : ∀ b o, s1.heap.get? b = some o → h₁.get? b = some o := fun b o e => hsb.extBut b o (Nat.ne_of_lt (Heap.lt_size e)) (Heap.get?_push_of_some _ e)
    have J : Inv (LamX.lamCx X (X.A.deeper (envOfC qg sg s.heap.objs.size g cdg)) (envOfC qg sg s.heap.objs.size g cdg :: X.stack) s1 HZ (fun c d H => Wz c d σZ H) scope f c') [] σ HZ { s1 with heap := h₁, toks := s1.toks + ([] : List (Str × Value)).length } :=
      LamX.lam_start2 I L I1.env0 hr.hd un hns kp
    refine PySem.W.kla_codeExpr (wpAny_mono ((hbody _ _ s1 HZ _ (hr.deeper _) hgd).run [] _ _ HZ Q J ht) (fun v s' hq => ?_) fun e s' hq => hq)
    obtain ⟨w', H', J', rv, q⟩ := hq
    exact ⟨w', H', J'.os, J'.bare, J'.base, J'.hok, rv, q⟩
  refine wpAny_call (codeAny_mono rc fun r s' hq => ?_)
  cases r with
  | error e => exact tk e s' (XE.of_call I1 (fun _ _ _ h => h) hq)
  | ok fl =>
    cases fl with
    | ret u => exact I1.after hq
    | next => exact False.elim hq
    | brk => exact False.elim hq
    | cont => exact False.elim hq
/-- x(lambda: body) -/
theorem q_lam {x a : Str} {g c t : Addr} {k : Nat} {qg : Str} {pg : Arguments} {bg : List Stmt} {sg : Scope} {dV kV doc pm cdv ct oc : Value} {an od : Option Addr} {osl : Array (Option Value)} {Ng : List Str} {params : Arguments} {body : Expr} {scope : Scope} {p lpos pos : Pos} {Fb : (Sto → Res D) → Ev → Sto → SR}
    (hg : Gl X x) (hm : X.mg x = some (.ref g)) (hk : PySem.W.keepIn X.K (.ref g) = true) (lk : X.K.lookup g = some ⟨oc, od, .func (PySem.W.fnOf x qg pg bg sg dV kV doc pm an cdv ct), osl⟩) (hcg : PySem.W.codeIn X.K cdv qg = true)
    (hb : ∀ us : List Value, us.length = 1 → bindArgs (PySem.W.fnOf x qg pg bg sg dV kV doc pm an cdv ct) ⟨us, []⟩ = pure ([a].zip us)) (Sg : FnScope Ng [a] sg) (hNg : Ng[0]? = some a) (hva : Vis sg a)
    (hG : ∀ (A : Around) (outer : List Env) (s : Shared) (H : Hp) (E : XK) (P' : Par) (th : Sto → Res D), P'.CA = P.CA → P'.FN = P.FN → P'.XV = [] → P'.xa 0 = none → P'.T = P.T → Room k (A.deeper (envOfC qg sg s.heap.objs.size g cdv)) → A.guards = some [] →
      ThOk (cxOf (L2.CX X.prog X.w) X.prog X.w X.K X.mg X.base Ng qg sg g cdv A outer s H E) P' a th → PSs (cxOf (L2.CX X.prog X.w) X.prog X.w X.K X.mg X.base Ng qg sg g cdv A outer s H E) bg (tS X.K P' (fun c d _ H => E c d H) (Fb th)))
    (hv0 : P.XV = []) (TB : LamX.TabB X.base X.mg c t) (hcode : X.env.code = .ref c) (hmT : (t, X.env.qual ++ "<lambda>") ∈ P.T) (hu : ∀ p ∈ P.T, p.1 = t → p.2 = X.env.qual ++ "<lambda>") (hr : Room (k + 1) X.A) (hgd : X.A.guards = some []) (tk : L2.Takes X W) (L : LamX.LamS X.env.scope scope) (hdef : defaultsOf params X.env = ([], []))
    (hbind : ∀ (q : Str) (cl : List (Str × Addr)) (pm cv ctv : Value), bindArgs (PySem.W.kla_fn "<lambda>" q params body scope cl pm cv ctv) ⟨[], []⟩ = pure [])
    (hk1 : 1 ≤ k) (hbody : ∀ (A : Around) (outer : List Env) (s : Shared) (H : Hp) (E : XK) (f c' : Addr), Room (k - 1) (A.deeper (LamX.lamEnv X scope s.heap.objs.size f c')) → A.guards = some [] → PE (LamX.lamCx X A outer s H E scope f c') body (tE X.K P (fun c d _ H => E c d H) Fl))
    (hdb : (x == ("__debug__" : Str)) = false) (hd : (a == ("__debug__" : Str)) = false) (hcd : (a == ("__classdict__" : Str)) = false) :
    PE X (.Call (.Name x p) [.Lambda params body scope lpos] [] pos) (tE X.K P W fun env st => ofSR (Fb (fun st => Fl env st) (envL Ng.length) st)) := by
  refine ⟨fun pins s σ H Q I h => ?_⟩
  obtain ⟨M, env, st, sl, at_, pp⟩ := h
  refine wpAny_Call_Name_kw (ld_glob I hg hm ?_ hdb)
  refine PySem.W.callWith_K (h₀ := X.base) I.ok.mod.kin hk ?_ (by rfl) (by rfl)
  show wpAny _ _ (spliced ((false, eval (.Lambda params body scope lpos) X.env) :: backTo pos (starEach [] X.env))) _ _ s
  refine Calls.spliced_cons (LamX.lam_make2 I TB hcode hmT hu at_.tab hdef (L.has I.ok) fun f c' pm' ctv H1 s' I1 eN T1 hf hfn hfr hco => ?_)
  refine Calls.spliced_nil ⟨I1.kIn, ?_⟩
  have a1 : At X.K P M H1 st := at_.ext eN T1
  have sl1 : EvR X.K P M H1 σ env := sl.mono at_.mok (Stp.ext eN)
  have hN0 : 0 < Ng.length := (List.getElem?_eq_some_iff.mp hNg).1
  have rc : codeAny (model X.prog X.w) X.A (.call (.ref g) ⟨[.ref f], []⟩) (CR (L2.CX X.prog X.w) X.stack X.prog X.w H1 s' Q (fun c d H' => W c d σ H')) s' := by
    refine LamX.run_ofS (N := Ng) (ps := [a]) (us := [.ref f]) (vs := [.ref f]) lk hcg Sg hr I1.env0 (.of_eq (hb [.ref f] rfl)) (.cons rfl .nil) rfl fun hr' => ?_
    refine ⟨_, hG X.A X.stack s' H1 (fun c d H' => W c d σ H') (lamP P M H1 f) (fun st => Fl env st) rfl rfl hv0 rfl rfl hr' hgd fun Wz pn xe p1 p2 tkz => q_act I1 sl1 a1.mok L hf hfn hfr hco (hbind _ _ _ _ _) tkz (k := k - 1) (by rw [Nat.sub_add_cancel hk1]; exact hr') hgd (fun A outer s H E hr2 hg2 => hbody A outer s H E f c' hr2 hg2) hNg hva hd hcd,
      M, envL Ng.length, st, evr_lam hN0, a1.note _, PostS.par (P := P) (P' := lamP P M H1 f) rfl rfl rfl (fun M' H' st' z => z.drop) (Post.step (Stp.ext eN) pp)⟩
  refine wpAny_call (codeAny_mono rc fun r s2 hq => ?_)
  cases r with
  | error e => exact tk e s2 (XE.of_call I1 (fun _ _ _ h => h) hq)
  | ok fl =>
    cases fl with
    | ret u => exact I1.after hq
    | next => exact False.elim hq
    | brk => exact False.elim hq
    | cont => exact False.elim hq
end
end Q
end

section
set_option Elab.async false
set_option linter.all false
set_option maxRecDepth 100000
set_option maxHeartbeats 1000000
set_option autoImplicit false
/-! Stores by place, dict displays, get. -/
namespace Q
open PySem PySem.Spec PyProof.Rows L2
section
variable {K : PySem.W.Frag} {P : Par} {M : List Addr} {H : Hp} {st : Sto}
theorem any_rel {k : Key} : ∀ {ds : List (Key × D)} {vs : List (Key × V)}, DKs K M H ds vs → (ds.any fun kv => decide (kv.1 = k)) = vs.any fun kv => decide (kv.1 = k)
  | [], vs, h => by unfold DKs at h; subst h; rfl
  | (k', d') :: ds, vs, h => by
    unfold DKs at h
    obtain ⟨v, vr, rfl, h1, h2⟩ := h
    rw [List.any_cons, List.any_cons, any_rel h2]
theorem dks_cons {k : Key} {d : D} {v : V} {ds : List (Key × D)} {vs : List (Key × V)} (h : DV K M H d v) (t : DKs K M H ds vs) : DKs K M H ((k, d) :: ds) ((k, v) :: vs) := by unfold DKs; exact ⟨v, vs, rfl, h, t⟩
theorem dks_nil : DKs K M H ([] : List (Key × D)) [] := by unfold DKs; rfl
theorem map_rel {k : Key} {d : D} {v : V} (r : DV K M H d v) : ∀ {ds : List (Key × D)} {vs : List (Key × V)}, DKs K M H ds vs → DKs K M H (ds.map fun kv => if kv.1 = k then (kv.1, d) else kv) (vs.map fun kv => if kv.1 = k then (kv.1, v) else kv)
  | [], vs, h => by unfold DKs at h; subst h; exact dks_nil
  | (k', d') :: ds, vs, h => by
    unfold DKs at h
    obtain ⟨v', vr, rfl, h1, h2⟩ := h
    rw [List.map_cons, List.map_cons]
    by_cases e : k' = k
    · rw [if_pos (show (k', d').1 = k from e), if_pos (show (k', v').1 = k from e)]
      exact dks_cons r (map_rel r h2)
    · rw [if_neg (show ¬ (k', d').1 = k from e), if_neg (show ¬ (k', v').1 = k from e)]
      exact dks_cons h1 (map_rel r h2)
theorem snoc_rel {k : Key} {d : D} {v : V} (r : DV K M H d v) : ∀ {ds : List (Key × D)} {vs : List (Key × V)}, DKs K M H ds vs → DKs K M H (ds ++ [(k, d)]) (vs ++ [(k, v)])
  | [], vs, h => by unfold DKs at h; subst h; exact dks_cons r dks_nil
  | (k', d') :: ds, vs, h => by
    unfold DKs at h
    obtain ⟨v', vr, rfl, h1, h2⟩ := h
    exact dks_cons h1 (snoc_rel r h2)
theorem put_rel {k : Key} {d : D} {v : V} (r : DV K M H d v) {ds : List (Key × D)} {vs : List (Key × V)} (h : DKs K M H ds vs) : DKs K M H (putD ds k d) (putK vs k v) := by
  unfold putD putK
  rw [any_rel h]
  split
  · exact map_rel r h
  · exact snoc_rel r h
def mergeD (kvs more : List (Key × D)) : List (Key × D) := more.foldl (fun acc kv => putD acc kv.1 kv.2) kvs
theorem merge_rel : ∀ {ms : List (Key × D)} {ns : List (Key × V)} {ds : List (Key × D)} {vs : List (Key × V)}, DKs K M H ms ns → DKs K M H ds vs → DKs K M H (mergeD ds ms) (mergeK vs ns)
  | [], ns, ds, vs, h, g => by unfold DKs at h; subst h; exact g
  | (k, d) :: ms, ns, ds, vs, h, g => by
    unfold DKs at h
    obtain ⟨v, vr, rfl, h1, h2⟩ := h
    show DKs K M H (mergeD (putD ds k d) ms) (mergeK (putK vs k v) vr)
    exact merge_rel h2 (put_rel h1 g)
end

/-! ### o[i] = v -/
def setD : D → D → D → Sto → Option Sto
  | .loc n, i, v, st => match st[n]? with
    | some (.lst ds) => match i with
      | .int k => (ixN ds.length k).map fun j => st.set n (.lst (ds.set j v))
      | _ => none
    | some (.dK kvs) => match keyD i with
      | some k => if kvs.length < 100000 then some (st.set n (.dK (putD kvs k v))) else none
      | none => none
    | _ => none
  | _, _, _, _ => none
section
variable {X : Cx} {P : Par} {W : WX}
def rSetD (K : PySem.W.Frag) (P : Par) : V → V → V → Hp → (Hp → Prop) → Prop := fun o i v H Q => ∃ M st do_ di dv, At K P M H st ∧ DV K M H do_ o ∧ DV K M H di i ∧ DV K M H dv v ∧ ∃ st', setD do_ di dv st = some st' ∧ ∀ M' H', Stp M H M' H' → At K P M' H' st' → Q H'
theorem set_ok (hu : X.A.units + 64 < cLine) : PSet X (rSetD X.K P) := by
  intro pins s σ H o i v ov iv u Q I ro ri rv h
  obtain ⟨M, st, do_, di, dv, at_, r1, r2, r3, st', e, k⟩ := h
  unfold setD at e
  split at e
  · rename_i n
    obtain ⟨p, rfl, hm⟩ := dv_loc.mp r1
    split at e
    · rename_i ds e1
      split at e
      · rename_i kk
        cases e2 : ixN ds.length kk with
        | none => rw [e2] at e; cases e
        | some j =>
          rw [e2] at e
          cases e
          obtain ⟨p', vs, h1, h2, h3⟩ := at_.lst e1
          rw [hm] at h1
          cases h1
          cases dv_int.mp r2
          refine set_list pins s σ H _ _ _ ov iv u Q I ro ri rv ⟨p, vs, kk, j, rfl, rfl, h2, by rw [← h3.length]; exact e2, ?_⟩
          have st1 : Stp M H M (upd H p (.lst (vs.set j v))) := stp_set hm nt_lst
          exact k M _ st1 (at_.set hm ⟨_, upd_same, (h3.set j r3).mono at_.mok st1⟩)
      · cases e
    · rename_i kvs e1
      split at e
      · rename_i kk e2
        split at e
        · rename_i hl
          cases e
          obtain ⟨p', vs, h1, h2, h3⟩ := at_.dK e1
          rw [hm] at h1
          cases h1
          obtain rfl : ov = Value.ref p := ro
          have st1 : Stp M H M (upd H p (.dK (putK vs kk v))) := stp_set hm (nt_mut (.inr (.inl ⟨_, rfl⟩)))
          exact d_setItem (H' := upd H p (.dK (putK vs kk v))) (by omega) I (.inl ⟨vs, kk, h2, keyD_of r2 e2, by rw [← h3.length, sizeLine_eq]; omega, rfl⟩) ri rv fun s' J => ⟨_, J, k M _ st1 (at_.set hm ⟨_, upd_same, (put_rel r3 h3).mono at_.mok st1⟩)⟩
        · cases e
      · cases e
    · cases e
  · cases e
def ofSt (r : Option Sto) (env : Ev) : SR := match r with
  | some st => .nx env st
  | none => .err
theorem q_put {o i value : Expr} {pos' pos : Pos} {Fo Fi Fv : Ev → Sto → Res D} (hu : X.A.units + 64 < cLine) (ho : PE X o (tE X.K P W Fo)) (hi : PE X i (tE X.K P W Fi)) (hv : PE X value (tE X.K P W Fv)) (hs : swapsWith value (some (.Subscript o i pos')) pos.line X.env = pure false) :
    PS X (.Assign [.Subscript o i pos'] value pos) (tS X.K P W fun env st => (Fv env st).then env fun v s1 => (Fo env s1).then env fun o s2 => (Fi env s2).then env fun i s3 => ofSt (setD o i v s3) env) := by
  refine ⟨fun pins s σ H De I h => ?_⟩
  obtain ⟨M, env, st, sl, at_, p⟩ := h
  have q : tG X.K P W (DV X.K) Fv σ H fun v H1 => tG X.K P W (DV X.K) Fo σ H1 fun o H2 => tG X.K P W (DV X.K) Fi σ H2 fun i H3 => rSetD X.K P o i v H3 fun H4 => De.nx σ H4 :=
    tG.goS sl at_ p fun v H1 dv M1 st1 s1 a1 sl1 r1 p1 => tG.goS sl1 a1 p1 fun o H2 do_ M2 st2 s2 a2 sl2 r2 p2 => tG.goS sl2 a2 p2 fun i H3 di M3 st3 s3 a3 sl3 r3 p3 => by
      refine ⟨M3, st3, do_, di, dv, a3, r2.mono a2.mok s3, r3, (r1.mono a1.mok s2).mono a2.mok s3, ?_⟩
      cases e : setD do_ di dv st3 with
      | none => rw [e] at p3; exact p3.elim
      | some st' =>
        rw [e] at p3
        exact ⟨st', rfl, fun M' H' s4 a4 => p3 σ M' H' s4 a4 (sl3.mono a3.mok s4)⟩
  exact wpAny_Assign_Subscript (thn (hv.run pins s σ H _ I q) fun r s1 ⟨v, H1, I1, rv, q1⟩ => thn (ho.run pins s1 σ H1 _ I1 q1) fun u s2 ⟨x, H2, I2, rx, q2⟩ => thn (hi.run pins s2 σ H2 _ I2 q2) fun iv s3 ⟨y, H3, I3, ry, q3⟩ =>
    thn (set_ok hu pins s3 σ H3 x y v u iv r _ I3 rx ry rv q3) fun _ s4 ⟨H4, I4, q4⟩ => ⟨σ, H4, I4, q4⟩) hs

/-! ### displays -/
theorem q_dnew {pos : Pos} : PE X (.Dict [] [] pos) (tE X.K P W fun env st => .ok (.loc st.length) (st ++ [.dK []])) := by
  refine ⟨fun pins s σ H Q I h => pe_dnewK.run pins s σ H Q I fun p hp => ?_⟩
  obtain ⟨M, env, st, sl, at_, q⟩ := h
  have s : Stp M H (M ++ [p]) (upd H p (.dK [])) := stp_loc hp
  refine q _ (M ++ [p]) _ s (at_.loc hp ⟨[], upd_same, dks_nil⟩) (dv_loc.mpr ⟨p, rfl, ?_⟩)
  rw [← at_.rel.len, List.getElem?_append_right (Nat.le_refl _), Nat.sub_self]
  rfl
abbrev FF := Ev → Sto → Res D
def pairsF : List (FF × FF) → Ev → Sto → Res (List (D × D))
  | [], _, st => .ok [] st
  | (fk, fv) :: r, env, st => (fk env st).bind fun k s1 => (fv env s1).bind fun v s2 => (pairsF r env s2).bind fun ps s3 => .ok ((k, v) :: ps) s3
def DPs (K : PySem.W.Frag) (M : List Addr) (H : Hp) (ds : List (D × D)) (ps : List (V × V)) : Prop := DVs K M H (ds.map (·.1)) (ps.map (·.1)) ∧ DVs K M H (ds.map (·.2)) (ps.map (·.2))
theorem q_pairs {σ : L2.St} : ∀ (l : List (FF × FF)) (H : Hp) (Q : List (V × V) → Hp → Prop), tG X.K P W (DPs X.K) (pairsF l) σ H Q → tPairs (l.map fun f => (tE X.K P W f.1, tE X.K P W f.2)) σ H Q
  | [], H, Q, ⟨M, env, st, sl, at_, p⟩ => p [] M H (Stp.refl _ _) at_ ⟨dvs_nil, dvs_nil⟩
  | (fk, fv) :: r, H, Q, ⟨M, env, st, sl, at_, p⟩ => by
    refine tG.go sl at_ p fun x H1 dx M1 st1 s1 a1 sl1 r1 p1 => tG.go sl1 a1 p1 fun y H2 dy M2 st2 s2 a2 sl2 r2 p2 => q_pairs r H2 _ (tG.go sl2 a2 p2 fun ps H3 ds M3 st3 s3 a3 sl3 r3 p3 => ?_)
    exact p3 ((x, y) :: ps) M3 H3 (Stp.refl _ _) a3 ⟨dvs_cons ((r1.mono a1.mok s2).mono a2.mok s3) r3.1, dvs_cons (r2.mono a2.mok s3) r3.2⟩
def keysD (ps : List (D × D)) : Option (List (Key × D)) := mapO (fun p => (keyD p.1).map fun k => (k, p.2)) ps
def dispEnd (n : Nat) (ps : List (D × D)) (st : Sto) : OD := match st[n]?, keysD ps with
  | some (.dK []), some kvs => if kvs.length ≤ 15 then some (.loc n, st.set n (.dK (mergeD [] kvs))) else none
  | _, _ => none
def dispF (l : List (FF × FF)) (env : Ev) (st : Sto) : Res D := (pairsF l env (st ++ [.dK []])).bind fun ps s1 => ofO (dispEnd st.length ps s1)
theorem keys_rel {M : List Addr} {H : Hp} : ∀ {ds : List (D × D)} {ps : List (V × V)} {kvs : List (Key × D)}, DPs X.K M H ds ps → keysD ds = some kvs → ∃ ks : List (Key × V), ps = ks.map (fun kv => (kV kv.1, kv.2)) ∧ DKs X.K M H kvs ks
  | [], ps, kvs, h, e => by
    obtain ⟨h1, _⟩ := h
    have := h1.nil_inv
    cases e
    cases ps with
    | nil => exact ⟨[], rfl, dks_nil⟩
    | cons _ _ => cases this
  | (dk, dv) :: ds, ps, kvs, h, e => by
    obtain ⟨h1, h2⟩ := h
    obtain ⟨x, xr, e1, r1, t1⟩ := h1.cons_inv
    obtain ⟨y, yr, e2, r2, t2⟩ := h2.cons_inv
    cases ps with
    | nil => cases e1
    | cons p ps =>
      rw [List.map_cons] at e1 e2
      cases e1
      cases e2
      unfold keysD mapO at e
      cases ek : keyD dk with
      | none => rw [ek] at e; cases e
      | some k =>
        rw [ek] at e
        cases er : keysD ds with
        | none =>
          unfold keysD at er
          rw [er] at e
          cases e
        | some kr =>
          obtain ⟨ks, e3, r3⟩ := keys_rel ⟨t1, t2⟩ er
          unfold keysD at er
          rw [er] at e
          cases e
          refine ⟨(k, p.2) :: ks, ?_, dks_cons r2 r3⟩
          rw [List.map_cons, e3, ← keyD_of r1 ek]
theorem DKs.len {M : List Addr} {H : Hp} {ds : List (Key × D)} {vs : List (Key × V)} (h : DKs X.K M H ds vs) : ds.length = vs.length := h.length
theorem q_disp {pos : Pos} {keys : List (Option Expr)} {values : List Expr} {l : List (FF × FF)} (h : PPs X pos keys values (l.map fun f => (tE X.K P W f.1, tE X.K P W f.2))) (hall : keys.all (·.isSome) = true) (hl : keys.length = values.length) (h0 : keys ≠ []) (h15 : keys.length ≤ 15) :
    PE X (.Dict keys values pos) (tE X.K P W (dispF l)) := by
  refine ⟨fun pins s σ H Q I q => (pe_disp h hall hl h0 h15).run pins s σ H Q I fun p hp => ?_⟩
  obtain ⟨M, env, st, sl, at_, pp⟩ := q
  have s0 : Stp M H (M ++ [p]) (upd H p (.dK [])) := stp_loc hp
  have a0 : At X.K P (M ++ [p]) (upd H p (.dK [])) (st ++ [.dK []]) := at_.loc hp ⟨[], upd_same, dks_nil⟩
  have hm : (M ++ [p])[st.length]? = some p := by
    rw [← at_.rel.len, List.getElem?_append_right (Nat.le_refl _), Nat.sub_self]
    rfl
  refine q_pairs l _ _ (tG.go (sl.mono at_.mok s0) a0 (Post.step s0 pp) fun ps H3 ds M3 st3 s3 a3 sl3 r3 p3 => ?_)
  have p3 := p3.toO
  unfold dispEnd at p3
  split at p3
  · rename_i kvs e1 e2
    split at p3
    · rename_i h15'
      have hm3 := s3.get hm
      obtain ⟨p', vs, k1, k2, k3⟩ := a3.dK e1
      rw [hm3] at k1
      cases k1
      have : vs = [] := by unfold DKs at k3; exact k3
      subst this
      obtain ⟨ks, e3, r4⟩ := keys_rel r3 e2
      refine ⟨k2, ks, e3, by rw [← r4.length]; exact h15', ?_⟩
      obtain ⟨d', st', e', kk⟩ := p3
      cases e'
      have st4 : Stp M3 H3 M3 (upd H3 p (.dK (mergeK [] ks))) := stp_set hm3 (nt_mut (.inr (.inl ⟨_, rfl⟩)))
      exact kk _ M3 _ st4 (a3.set hm3 ⟨_, upd_same, (merge_rel r4 dks_nil).mono a3.mok st4⟩) (dv_loc.mpr ⟨p, rfl, hm3⟩)
    · exact p3.not.elim
  · exact p3.not.elim

/-! ### d.get(k, x) -/
def getD2 : D → D → D → Sto → OD
  | .loc n, k, x, st => match st[n]?, keyD k with
    | some (.dK kvs), some k => some ((lookD kvs k).getD x, st)
    | _, _ => none
  | _, _, _, _ => none
def isDk (d : D) (st : Sto) : Bool := match d with
  | .loc n => match st[n]? with
    | some (.dK _) => true
    | _ => false
  | _ => false
def getF (Fo Fk Fx : FF) : FF := fun env st => (Fo env st).bind fun o s1 => if isDk o s1 = true then (Fk env s1).bind fun k s2 => (Fx env s2).bind fun x s3 => ofO (getD2 o k x s3) else .err
theorem q_get2 {o e f : Expr} {apos cpos : Pos} {Fo Fk Fx : FF} (hu : X.A.units + 64 < cLine) (ho : PE X o (tE X.K P W Fo)) (he : PE X e (tE X.K P W Fk)) (hf : PE X f (tE X.K P W Fx)) (m : M2 X o "get" apos e f cpos) :
    PE X (.Call (.Attribute o "get" apos) [e, f] [] cpos) (tE X.K P W (getF Fo Fk Fx)) := by
  refine ⟨fun pins s σ H Q I h => (pe_dget2 (by omega) ho he hf m).run pins s σ H Q I ?_⟩
  obtain ⟨M, env, st, sl, at_, pp⟩ := h
  refine tG.go sl at_ pp fun x H1 d M1 st1 s1 a1 sl1 r1 p1 => ?_
  split at p1
  · rename_i hd
    unfold isDk at hd
    split at hd
    · rename_i n
      split at hd
      · rename_i kvs e1
        obtain ⟨p, rfl, hm⟩ := dv_loc.mp r1
        obtain ⟨p', vs, k1, k2, k3⟩ := a1.dK e1
        rw [hm] at k1
        cases k1
        refine ⟨p, rfl, .inl ⟨vs, Rd.of k2⟩, tG.go sl1 a1 p1 fun y H2 dy M2 st2 s2 a2 sl2 r2 p2 => tG.go sl2 a2 p2 fun z H3 dz M3 st3 s3 a3 sl3 r3 p3 => ?_⟩
        have p3 := p3.toO
        simp only [getD2] at p3
        split at p3
        · rename_i kvs3 kk e3 e4
          obtain ⟨p2, vs3, k4, k5, k6⟩ := a3.dK e3
          rw [s3.get (s2.get hm)] at k4
          cases k4
          refine ⟨valV vs3 kk, .inl ⟨vs3, kk, Rd.of k5, keyD_of (r2.mono a2.mok s3) e4, rfl⟩, ?_⟩
          cases el : lookD kvs3 kk with
          | none =>
            rw [el] at p3
            rw [(look_rel k6).2 el]
            exact p3.pure a3 r3
          | some d3 =>
            rw [el] at p3
            obtain ⟨v3, e5, r5⟩ := (look_rel k6).1 d3 el
            rw [e5]
            exact p3.pure a3 r5
        · exact p3.not.elim
      · cases hd
    · cases hd
  · exact p1.elim
end
end Q
end

section
set_option Elab.async false
set_option linter.all false
set_option maxRecDepth 100000
set_option maxHeartbeats 1000000
set_option autoImplicit false
/-! List comprehensions with one clause, by data. -/
namespace Q
open PySem PySem.Spec PyProof.Rows L2
/-! ### targets of a block: what is not the block's own stays -/
def PostPv (K : PySem.W.Frag) (P : Par) (vs : List Nat) (σ : L2.St) (M : List Addr) (H : Hp) (st : Sto) (r : Option Ev) (Q : L2.St → Hp → Prop) : Prop := ∃ env', r = some env' ∧ ∀ (σ' : L2.St) (M' : List Addr) (H' : Hp), Stp M H M' H' → At K P M' H' st → EvR K P M' H' σ' env' → wipe σ' vs = wipe σ vs → Q σ' H'
def tPv (K : PySem.W.Frag) (P : Par) (vs : List Nat) (g : D → Ev → Option Ev) : TG := fun v σ H Q => ∃ (M : List Addr) (env : Ev) (st : Sto) (d : D), EvR K P M H σ env ∧ At K P M H st ∧ DV K M H d v ∧ PostPv K P vs σ M H st (g d env) Q
def tPvs (K : PySem.W.Frag) (P : Par) (ws : List Nat) (g : List D → Ev → Option Ev) : TGs := fun vs σ H Q => ∃ (M : List Addr) (env : Ev) (st : Sto) (ds : List D), EvR K P M H σ env ∧ At K P M H st ∧ DVs K M H ds vs ∧ PostPv K P ws σ M H st (g ds env) Q
theorem wipe_set {σ : L2.St} {i : Nat} {x : Option V} : ∀ {vs : List Nat}, i ∈ vs → wipe (σ.set i x) vs = wipe σ vs
  | v :: vs, h => by
    unfold wipe
    by_cases hi : i ∈ vs
    · rw [wipe_set hi]
    · have hv : i = v := by
        rcases List.mem_cons.mp h with h | h
        · exact h
        · exact absurd h hi
      subst hv
      have key : ∀ ws : List Nat, i ∉ ws → wipe (σ.set i x) ws = (wipe σ ws).set i x := by
        intro ws
        induction ws with
        | nil => intro _; rfl
        | cons w ws ih =>
          intro hn
          rw [List.mem_cons, not_or] at hn
          unfold wipe
          rw [ih hn.2, List.set_comm _ _ hn.1]
      rw [key vs hi, List.set_set]
section
variable {X : Cx} {P : Par} {pos : Pos} {vs : List Nat}
theorem q_pvn {i : Nat} {x : Str} (hv : i ∈ vs) (hN : X.N.Nodup) (hi : X.N[i]? = some x) (hx : Loc X.env.scope x) (hf : X.fn x = true ∨ X.env.scope.names.lookup x = some .local) : PG X (.Name x pos) (tPv X.K P vs (gNm i)) := by
  refine ⟨fun pins s σ H v u Q I r h => (pg_name hN hi hx hf).run pins s σ H v u Q I r ?_⟩
  obtain ⟨M, env, st, d, sl, at_, rd, env', e, k⟩ := h
  cases e
  exact k _ M H (Stp.refl _ _) at_ (sl.set rd) (wipe_set hv)
theorem q_pvnil : PGs X [] (tPvs X.K P vs gsNil) := by
  refine ⟨fun pins s σ H ws us Q I r h => pgs_nil.run pins s σ H ws us Q I r ?_⟩
  obtain ⟨M, env, st, ds, sl, at_, rd, env', e, k⟩ := h
  cases ds with
  | nil =>
    cases e
    exact ⟨rd.nil_inv, k _ M H (Stp.refl _ _) at_ sl rfl⟩
  | cons _ _ => cases e
theorem q_pvcons {t : Expr} {ts : List Expr} {g : D → Ev → Option Ev} {gs : List D → Ev → Option Ev} (h1 : PG X t (tPv X.K P vs g)) (h2 : PGs X ts (tPvs X.K P vs gs))
    (hs : (assignEach (t :: ts) X.env).map (·.2) = assign t X.env :: (assignEach ts X.env).map (·.2)) : PGs X (t :: ts) (tPvs X.K P vs (gsCons g gs)) := by
  refine ⟨fun pins s σ H ws us Q I r h => (pgs_cons h1 h2 hs).run pins s σ H ws us Q I r ?_⟩
  obtain ⟨M, env, st, ds, sl, at_, rd, env', e, k⟩ := h
  cases ds with
  | nil => cases e
  | cons d ds =>
    obtain ⟨v, vr, rfl, r1, r2⟩ := rd.cons_inv
    cases e1 : g d env with
    | none => simp only [gsCons, e1, Option.bind_none] at e; cases e
    | some env1 =>
      simp only [gsCons, e1, Option.bind_some] at e
      exact ⟨v, vr, rfl, M, env, st, d, sl, at_, r1, env1, e1, fun σ' M' H' s1 a1 sl1 w1 => ⟨M', env1, st, ds, sl1, a1, r2.mono at_.mok s1, env', e, fun σ2 M2 H2 s2 a2 sl2 w2 => k σ2 M2 H2 (s1.trans s2) a2 sl2 (w2.trans w1)⟩⟩
theorem q_pvtup {ts : List Expr} {k n : Nat} {gs : List D → Ev → Option Ev} (hc : X.calm = true) (h : PGs X ts (tPvs X.K P vs gs)) (hn : (assignEach ts X.env).length = n) (hst : (assignEach ts X.env).findIdx? (·.1) = none) : PG X (.Tuple ts k pos) (tPv X.K P vs (gTp gs n)) := by
  refine ⟨fun pins s σ H v u Q I r hh => (pg_tup hc h hn hst).run pins s σ H v u Q I r ?_⟩
  obtain ⟨M, env, st, d, sl, at_, rd, env', e, kk⟩ := hh
  cases d with
  | tup ds =>
    simp only [gTp] at e
    split at e
    · rename_i hl
      obtain ⟨a, ws, rfl, h1, h2⟩ := dv_tup.mp rd
      exact ⟨a, ws, rfl, h1, by rw [← h2.length]; exact hl, M, env, st, ds, sl, at_, h2, env', e, kk⟩
    · cases e
  | _ => cases e
end

/-! ### the comprehension -/
def wipeE (env : Ev) : List Nat → Ev
  | [] => env
  | v :: vs => (wipeE env vs).set v none
theorem EvR.wipe {K : PySem.W.Frag} {P : Par} {M : List Addr} {H : Hp} {σ : L2.St} {env : Ev} (h : EvR K P M H σ env) : ∀ vs : List Nat, EvR K P M H (L2.wipe σ vs) (wipeE env vs)
  | [] => h
  | v :: vs => by
    unfold L2.wipe wipeE
    exact (EvR.wipe h vs).none v
def lcLoop (it : ItD) (g : D → Ev → Option Ev) (T : Ev → Sto → Res Bool) (Fe : Ev → Sto → Res D) (env : Ev) (n0 : Nat) : Nat → Nat → Sto → Option Sto
  | 0, _, st => if it.fin st = true then some st else none
  | k + 1, i, st => match it.item i st with
    | none => none
    | some d => match g d env with
      | none => none
      | some env1 => match T env1 st with
        | .ok true st1 => match Fe env1 st1 with
          | .ok y st2 => match lenAt n0 st2 with
            | some acc => if acc.length < 100000 then lcLoop it g T Fe env n0 k (i + 1) (st2.set n0 (.lst (acc ++ [y]))) else none
            | none => none
          | _ => none
        | .ok false st1 => lcLoop it g T Fe env n0 k (i + 1) st1
        | _ => none
def lcEnd (it : ItD) (g : D → Ev → Option Ev) (T : Ev → Sto → Res Bool) (Fe : Ev → Sto → Res D) (env : Ev) (st : Sto) : Res D := match lcLoop it g T Fe env st.length it.n 0 (st ++ [.lst []]) with
  | some st' => .ok (.loc st.length) st'
  | none => .err
def lcF (Fi : Ev → Sto → Res ItD) (g : D → Ev → Option Ev) (T : Ev → Sto → Res Bool) (Fe : Ev → Sto → Res D) (vs : List Nat) (env : Ev) (st : Sto) : Res D := (Fi env st).bind fun it s1 => lcEnd it g T Fe (wipeE env vs) s1
section
variable {X : Cx} {P : Par} {W : WX} {Fi : Ev → Sto → Res ItD} {g : D → Ev → Option Ev} {T : Ev → Sto → Res Bool} {Fe : Ev → Sto → Res D} {vs : List Nat}
theorem lc_read {σ : L2.St} {H : Hp} {Q : VK} (h : tE X.K P W (lcF Fi g T Fe vs) σ H Q) : tLc (tI X.K P W Fi) (tPv X.K P vs g) (tT X.K P W0 T) (tE X.K P W0 Fe) vs σ H Q := by
  obtain ⟨M, env, st, sl, at_, p⟩ := h
  refine tG.go sl at_ p fun J H1 it M1 st1 s1 a1 sl1 r1 p1 => fun Da hD => ?_
  unfold lcEnd at p1
  have s2 : Stp M1 H1 (M1 ++ [Da]) (upd H1 Da (.lst [])) := stp_loc hD
  have a2 : At X.K P (M1 ++ [Da]) (upd H1 Da (.lst [])) (st1 ++ [.lst []]) := a1.loc hD ⟨[], upd_same, dvs_nil⟩
  have hm : (M1 ++ [Da])[st1.length]? = some Da := by
    rw [← a1.rel.len, List.getElem?_append_right (Nat.le_refl _), Nat.sub_self]
    rfl
  cases e0 : lcLoop it g T Fe (wipeE env vs) st1.length it.n 0 (st1 ++ [.lst []]) with
  | none => rw [e0] at p1; exact p1.elim
  | some stE =>
    rw [e0] at p1
    have p1 : ∀ (b : V) (M' : List Addr) (H' : Hp), Stp M1 H1 M' H' → At X.K P M' H' stE → DV X.K M' H' (.loc st1.length) b → Q b H' := p1
    refine ⟨fun i m H => m = it.n - i ∧ i ≤ it.n ∧ ∃ M st, Stp (M1 ++ [Da]) (upd H1 Da (.lst [])) M H ∧ At X.K P M H st ∧ lcLoop it g T Fe (wipeE env vs) st1.length (it.n - i) i st = some stE, ⟨it.n, rfl, Nat.zero_le _, _, _, Stp.refl _ _, a2, e0⟩, ?_⟩
    rintro i m H2 ⟨rfl, hle, M2, st2, s3, a3, e1⟩
    have ok := r1 i M2 H2 st2 (s2.trans s3) a3
    by_cases hlt : i < it.n
    · refine .inr ?_
      obtain ⟨k, hk⟩ : ∃ k, it.n - i = k + 1 := ⟨it.n - i - 1, by omega⟩
      have hk2 : it.n - (i + 1) = k := by omega
      rw [hk, lcLoop] at e1
      cases e2 : it.item i st2 with
      | none => rw [e2] at e1; cases e1
      | some d =>
        rw [e2] at e1
        dsimp only at e1
        cases e3 : g d (wipeE env vs) with
        | none => rw [e3] at e1; cases e1
        | some env1 =>
          rw [e3] at e1
          dsimp only at e1
          obtain ⟨go, yl⟩ := ok.1 d hlt e2
          refine ⟨go, fun H' => ∃ M st, Stp (M1 ++ [Da]) (upd H1 Da (.lst [])) M H' ∧ At X.K P M H' st ∧ lcLoop it g T Fe (wipeE env vs) st1.length k (i + 1) st = some stE, fun H' hn => ⟨it.n - (i + 1), by omega, rfl, hlt, by rw [hk2]; exact hn⟩, fun x H' y => ?_⟩
          obtain ⟨M3, s4, a4, r4⟩ := yl x H' y
          have sW : EvR X.K P M3 H' (wipe σ vs) (wipeE env vs) := (((sl1.mono a1.mok s2).mono a2.mok s3).mono a3.mok s4).wipe vs
          refine ⟨M3, wipeE env vs, st2, d, sW, a4, r4, env1, e3, fun σ4 M4 H4 s5 a5 sl5 w5 => ⟨?_, M4, env1, st2, sl5, a5, ?_⟩⟩
          · rw [w5]
            have idem : ∀ ws : List Nat, wipe (wipe σ ws) ws = wipe σ ws := by
              intro ws
              have key : ∀ (us ws : List Nat) (τ : L2.St), (∀ u ∈ us, u ∈ ws) → wipe (wipe τ us) ws = wipe τ ws := by
                intro us
                induction us with
                | nil => intro ws τ _; rfl
                | cons u us ih =>
                  intro ws τ hsub
                  show wipe ((wipe τ us).set u none) ws = _
                  rw [wipe_set (hsub u (List.mem_cons_self ..))]
                  exact ih ws τ fun v hv => hsub v (List.mem_cons_of_mem _ hv)
              exact key ws ws σ fun u hu => hu
            exact idem vs
          have s15 : Stp (M1 ++ [Da]) (upd H1 Da (.lst [])) M4 H4 := (s3.trans s4).trans s5
          cases e4 : T env1 st2 with
          | exc c d s => rw [e4] at e1; cases e1
          | err => rw [e4] at e1; cases e1
          | ok b st5 =>
            rw [e4] at e1
            intro b' M5 H5 s6 a6 hb
            subst hb
            cases b with
            | false =>
              rw [if_neg Bool.false_ne_true]
              exact ⟨M5, st5, s15.trans s6, a6, e1⟩
            | true =>
              rw [if_pos rfl]
              dsimp only at e1
              cases e5 : Fe env1 st5 with
              | exc c d s => rw [e5] at e1; cases e1
              | err => rw [e5] at e1; cases e1
              | ok y6 st6 =>
                rw [e5] at e1
                dsimp only at e1
                refine ⟨M5, env1, st5, sl5.mono a5.mok s6, a6, ?_⟩
                rw [e5]
                intro v6 M6 H6 s7 a7 r7
                cases e6 : lenAt st1.length st6 with
                | none => rw [e6] at e1; cases e1
                | some acc =>
                  rw [e6] at e1
                  dsimp only at e1
                  split at e1
                  · rename_i hacc
                    have s17 := (s15.trans s6).trans s7
                    obtain ⟨p', vs', k1, k2, k3⟩ := a7.lst (lenAt_of e6)
                    rw [s17.get hm] at k1
                    cases k1
                    have s8 : Stp M6 H6 M6 (upd H6 Da (.lst (vs' ++ [v6]))) := stp_set (s17.get hm) nt_lst
                    exact ⟨vs', k2, by rw [← k3.length, sizeLine_eq]; omega, M6, _, s17.trans s8, a7.set (ob := .lst (acc ++ [y6])) (s17.get hm) ⟨_, upd_same, (k3.append (dvs_cons r7 dvs_nil)).mono a7.mok s8⟩, e1⟩
                  · cases e1
    · have e9 : it.n - i = 0 := by omega
      rw [e9, lcLoop] at e1
      split at e1
      · rename_i hf
        cases e1
        exact .inl ⟨ok.2 (by omega) hf, p1 _ M2 H2 (s2.trans s3) a3 (dv_loc.mpr ⟨Da, rfl, s3.get hm⟩)⟩
      · cases e1
variable {elt tg iter : Expr} {ifs : List Expr} {scope : Scope} {own : List (Str × Nat)} {pos : Pos}
theorem q_lc (hc : X.calm = true) (hN : X.N.Nodup) (hi : PI X tg iter (tI X.K P W Fi)) (ok : BlkOk X.N X.env.scope scope own)
    (hg : ∀ (s : Shared) (H : Hp) (C : Addr) (cl : List (Str × Addr)) (fp : List Addr), PG (X.blk s H scope (compEnvC scope cl C X.env) fp) tg (tPv X.K P (own.map (·.2)) g)) (ht : ∀ (s : Shared) (H : Hp) (C : Addr) (cl : List (Str × Addr)) (fp : List Addr), PTs (X.blk s H scope (compEnvC scope cl C X.env) fp) ifs (tT X.K P W0 T))
    (he : ∀ (s : Shared) (H : Hp) (C : Addr) (cl : List (Str × Addr)) (fp : List Addr), PE (X.blk s H scope (compEnvC scope cl C X.env) fp) elt (tE X.K P W0 Fe)) (hs : ∀ x, foldedSetIterable iter X.env x = pure x) :
    PE X (.ListComp elt [⟨tg, iter, ifs, 0⟩] scope pos) (tE X.K P W (lcF Fi g T Fe (own.map (·.2)))) :=
  ⟨fun pins s σ H Q I h => (pe_lc hc hN hi ok hg ht he hs).run pins s σ H Q I (lc_read h)⟩
theorem q_setLc {i : Nat} {y : Str} {py spos : Pos} (hc : X.calm = true) (hN : X.N.Nodup) (hy : X.N[i]? = some y) (hyl : X.env.scope.names.lookup y = some .local) (hsw : swapsWith (.ListComp elt [⟨tg, iter, ifs, 0⟩] scope pos) (some (.Name y py)) spos.line X.env = pure true)
    (hi : PI X tg iter (tI X.K P W Fi)) (ok : BlkOk X.N X.env.scope scope own)
    (hg : ∀ (s : Shared) (H : Hp) (C : Addr) (cl : List (Str × Addr)) (fp : List Addr), PG (X.blk s H scope (compEnvC scope cl C X.env) fp) tg (tPv X.K P (own.map (·.2)) g)) (ht : ∀ (s : Shared) (H : Hp) (C : Addr) (cl : List (Str × Addr)) (fp : List Addr), PTs (X.blk s H scope (compEnvC scope cl C X.env) fp) ifs (tT X.K P W0 T))
    (he : ∀ (s : Shared) (H : Hp) (C : Addr) (cl : List (Str × Addr)) (fp : List Addr), PE (X.blk s H scope (compEnvC scope cl C X.env) fp) elt (tE X.K P W0 Fe)) (hs : ∀ x, foldedSetIterable iter X.env x = pure x) :
    PS X (.Assign [.Name y py] (.ListComp elt [⟨tg, iter, ifs, 0⟩] scope pos) spos) (tS X.K P W fun env st => (lcF Fi g T Fe (own.map (·.2)) env st).then env fun d s1 => .nx (env.set i (some d)) s1) := by
  refine ⟨fun pins s σ H De I h => (ps_setLc hc hN hy hyl hsw hi ok hg ht he hs).run pins s σ H De I (lc_read ?_)⟩
  obtain ⟨M, env, st, sl, at_, p⟩ := h
  exact tG.goS sl at_ p fun x H1 d M1 st1 s1 a1 sl1 r1 p1 => p1 (σ.set i (some x)) M1 H1 (Stp.refl _ _) a1 (sl1.set r1)
theorem q_tsnil : PTs X [] (tT X.K P W fun _ st => .ok true st) := by
  refine ⟨fun pins s σ H Q I h => pts_nil.run pins s σ H Q I ?_⟩
  obtain ⟨M, env, st, sl, at_, p⟩ := h
  exact p true M H (Stp.refl _ _) at_ rfl
theorem q_tsone {c : Expr} {Tc : Ev → Sto → Res Bool} (h : PT X c (tT X.K P W Tc)) : PTs X [c] (tT X.K P W Tc) := pts_one h
end
end Q
end

section
set_option Elab.async false
set_option linter.all false
set_option maxRecDepth 100000
set_option maxHeartbeats 1000000
set_option autoImplicit false
/-! Further operators and builtins. -/
namespace Q
open PySem PySem.Spec PyProof.Rows L2
section
variable {X : Cx} {P : Par} {W : WX}
def negD : D → Sto → OD
  | .int i, st => some (.int (-i), st)
  | _, _ => none
theorem neg_ok : UnR X (unaryOp .USub) (rD1 X.K P negD) := by
  intro pins s σ H x u Q I r h
  obtain ⟨M, st, d, a, rd, p⟩ := h
  unfold negD at p
  split at p
  · cases dv_int.mp rd
    exact un_neg pins s σ H _ u Q I r ⟨_, rfl, p.int a⟩
  · exact p.not.elim
def ltD : D → D → Sto → OD := int2b fun i j => decide (i < j)
def leD : D → D → Sto → OD := int2b fun i j => decide (i ≤ j)
def gtD : D → D → Sto → OD := int2b fun i j => decide (j < i)
def geD : D → D → Sto → OD := int2b fun i j => decide (j ≤ i)
theorem lt_ok : OpR X (compareOp .Lt) (rD2 X.K P ltD) := int2b_ok op_lt
theorem le_ok : OpR X (compareOp .LtE) (rD2 X.K P leD) := int2b_ok op_le
theorem gt_ok : OpR X (compareOp .Gt) (rD2 X.K P gtD) := int2b_ok op_gt
theorem ge_ok : OpR X (compareOp .GtE) (rD2 X.K P geD) := int2b_ok op_ge
def strD : List D → Sto → OD
  | [.int i], st => if i.natAbs.log2 < 1920 then some (.str (toString i : String), st) else none
  | [.bl b], st => some (.str (if b then "True" else "False"), st)
  | [.non], st => some (.str "None", st)
  | [.str x], st => some (.str x, st)
  | _, _ => none
theorem str_ok : CallR X (.type "str") (rDL X.K P strD) := by
  intro pins s σ H xs us Q I r h
  obtain ⟨M, st, ds, a, rd, p⟩ := h
  unfold strD at p
  split at p
  · obtain ⟨v, rfl, h1⟩ := one_of rd
    rw [dv_int.mp h1] at r
    split at p
    · rename_i hz
      exact call_str_int pins s σ H _ us Q I r ⟨_, rfl, hz, p.str a⟩
    · exact p.not.elim
  · obtain ⟨v, rfl, h1⟩ := one_of rd
    rw [dv_bl.mp h1] at r
    obtain ⟨u, rfl, ru⟩ := vals_one r
    cases ru
    exact PySem.P.str_of_bool ⟨.str _, H, I.tok _, ⟨_, rfl⟩, p.str a⟩
  · obtain ⟨v, rfl, h1⟩ := one_of rd
    rw [dv_non.mp h1] at r
    obtain ⟨u, rfl, ru⟩ := vals_one r
    cases ru
    exact PySem.P.str_of_none ⟨.str _, H, I.tok _, ⟨_, rfl⟩, p.str a⟩
  · obtain ⟨v, rfl, h1⟩ := one_of rd
    rw [dv_str.mp h1] at r
    obtain ⟨u, rfl, t, rfl⟩ := vals_one r
    exact PySem.P.str_of_str ⟨.str _, H, I, ⟨_, rfl⟩, p.str a⟩
  · exact p.not.elim
end
end Q
end

section
set_option Elab.async false
set_option linter.all false
set_option maxRecDepth 100000
set_option maxHeartbeats 1000000
set_option autoImplicit false
/-! all of a generator expression whose element may call. -/
namespace Q
open PySem PySem.Spec PyProof.Rows L2 GenW
/-- the loop of all: n falls -/
theorem all_loop {P : Program} {w : World} {A : Around} {R : Result → Shared → Prop} {I : Addr} (Go : Nat → Shared → Prop)
    (h : ∀ n s, Go n s → wpAny (model P w) A.in1 (pyNext (.ref I)) (fun r s' => (r = none ∧ R (.ok (.ret (.bool true))) s') ∨ (r = some (.bool false) ∧ R (.ok (.ret (.bool false))) s') ∨ (r = some (.bool true) ∧ ∃ m, m < n ∧ Go m s')) (fun _ _ => False) s) :
    ∀ n s, Go n s → codeAny (model P w) A (.builtin "all.loop" ⟨[.ref I], []⟩) R s := by
  intro n
  induction n using Nat.strongRecOn with
  | ind n ih =>
    intro s hs
    refine codeAny_builtin F.entry_all_loop ?_
    rw [Around.under_plainId F.plain_all_loop _]
    show wpAny _ A.in1 (pyNext (.ref I) >>= _) _ _ s
    refine wpAny_bind (wpAny_mono (h n s hs) (fun r s' hr => ?_) fun _ _ e => e.elim)
    rcases hr with ⟨rfl, hr⟩ | ⟨rfl, hr⟩ | ⟨rfl, m, hm, hg⟩
    · exact wpAny_bind (wpAny_rule (wpAny_pure hr))
    · refine wpAny_bind (wpAny_holding (wpAny_truthy_bool ?_))
      refine wpAny_bind (wpAny_letGo ?_)
      simp only [Bool.false_eq_true, if_false]
      exact wpAny_bind (wpAny_rule (wpAny_pure hr))
    · refine wpAny_bind (wpAny_holding (wpAny_truthy_bool ?_))
      refine wpAny_bind (wpAny_letGo ?_)
      simp only [if_true]
      exact wpAny_pure ⟨plainId_quiet F.plain_all_loop _, ih m hm s' hg⟩
section
variable {X : Cx} {pins : List (Addr × Obj)} {σ : L2.St} {H : Hp} {s : Shared}
/-- the generator expression's code object: new, or found in the table -/
theorem gen_code {T : List (Addr × Str)} {c P : Addr} {scope : Scope} {pos : Pos} {E : Value → Shared → Prop} {Q : Value → Shared → Prop} (I : Inv X pins σ H s) (TB : LamX.TabB X.base X.mg c P) (hcode : X.env.code = .ref c)
    (hm : (P, X.env.qual ++ "<genexpr>") ∈ T) (hu : ∀ p ∈ T, p.1 = P → p.2 = X.env.qual ++ "<genexpr>") (hT : LamX.Tabs T H)
    (h : ∀ (c' : Value) (H1 : Hp) (s' : Shared), Inv X pins σ H1 s' → LamX.ExtN H H1 → LamX.Tabs T H1 → (∀ b, b < s.heap.objs.size → H b = none → H1 b = none) → (∀ b o, H b = none → s.heap.get? b = some o → s'.heap.get? b = some o) → Q c' s') :
    wpAny (model X.prog X.w) X.A (genexprCode X.env pos (X.env.qual ++ "<genexpr>") scope) Q E s := by
  obtain ⟨ps, hP, ht, ha⟩ := hT _ hm
  have hP' : s.heap.get? P = some { cls := .none, data := .fields ps } := I.hok P _ hP
  have cd : PySem.W.CodeHd s.heap c P := TB.code.keeps I.bk
  have nP : ∀ b, H b = none → b ≠ P := fun b e z => by rw [z, hP] at e; cases e
  cases hc : codeAmong pos ps.toList with
  | none =>
    refine wpAny_genexprCodeX hcode (cd.code hP' ht) (cd.tab hP') hc fun c' h' tk hx hge hlt hco hrec htb _ => ?_
    obtain ⟨c2, oc, vs, t, e2, hoc, hd, hv⟩ := hrec
    cases e2
    have nC : H c' = none := I.hok.fresh hge
    have I1 := LamX.inv_table (t' := tk) (q := X.env.qual ++ "<genexpr>") (more := #[rawInt pos.line, rawInt pos.col, .ref c']) (h' := h') I hP hx htb.2 hge ⟨oc, vs, t, hoc, hd, hv⟩
    have hE : LamX.ExtN H (upd (upd H P (.tbl (ps ++ #[rawInt pos.line, rawInt pos.col, .ref c']))) c' (LamX.CodeO c' (X.env.qual ++ "<genexpr>"))) := fun b o e n => by
      rw [upd_ne (ne_of_none e nC), upd_ne (fun z => n ps (Option.some.inj (e.symm.trans (by rw [z]; exact hP))))]
      exact e
    have eL : (ps ++ #[rawInt pos.line, rawInt pos.col, .ref c']).toList = ps.toList ++ [rawInt pos.line, rawInt pos.col, .ref c'] := by simp
    refine h _ _ _ I1 hE (fun p hp => ?_) (fun b hb hn => ?_) fun b o hn e => hx b o (nP b hn) e
    · by_cases hb : p.1 = P
      · rw [hu p hp hb, hb]
        refine ⟨_, by rw [upd_ne (ne_of_none hP nC), upd_same], by rw [eL]; exact PySem.TriplesOk_snoc _ _ _ _ ht, fun p' cv hcv => ?_⟩
        rw [eL] at hcv
        rcases LamX.among_app _ ht hcv with z | z
        · obtain ⟨c0, e1, e2⟩ := ha p' cv z
          exact ⟨c0, e1, hE _ _ e2 LamX.codeO_ne⟩
        · exact ⟨c', z, upd_same⟩
      · obtain ⟨ps', a1, a2, a3⟩ := hT p hp
        refine ⟨ps', by rw [upd_ne (ne_of_none a1 nC), upd_ne hb]; exact a1, a2, fun p' cv hcv => ?_⟩
        obtain ⟨c0, e1, e2⟩ := a3 p' cv hcv
        exact ⟨c0, e1, hE _ _ e2 LamX.codeO_ne⟩
    · rw [upd_ne (fun z => Nat.lt_irrefl _ (Nat.lt_of_lt_of_le hb (by rw [z]; exact hge))), upd_ne (nP b hn)]
      exact hn
  | some cv =>
    refine wpAny_genexprCode_hit hcode (cd.code hP' ht) hc ?_
    exact h cv H s I (LamX.ExtN.refl H) hT (fun _ _ e => e) fun _ _ _ e => e
end
end Q
namespace Q
open PySem PySem.Spec PyProof.Rows L2 GenW
/-! ### the generator expression's frame -/
abbrev gxE (X : Cx) (scope : Scope) (C : Addr) (code : Value) : Env := genEnv scope (cloFrom X.env.cells scope.names []) C code builtinsNs X.env
/-- the context of its turns: made at s, its iterator's objects at fp -/
def gxCx (X : Cx) (A : Around) (s : Shared) (H : Hp) (scope : Scope) (C : Addr) (code : Value) (fp : List Addr) (pn : List (Addr × Obj)) : Cx where
  prog := X.prog
  w := X.w
  K := X.K
  mg := X.mg
  base := X.base
  A := A.deeper (gxE X scope C code)
  N := X.N
  s_0 := s
  H_0 := H
  env := gxE X scope C code
  outer := X.stack
  stack := gxE X scope C code :: X.stack
  ex := fp
  fn := fun _ => false
  calm := true
  pn := pn
  xe := fun _ _ => False
/-- its names: the walked thing, its own (the slots own), captured ones and globals -/
structure GnS (N : List Str) (sc scope : Scope) (own : List Nat) : Prop where
  kind : scope.kind = .function
  co : scope.isCoroutine = false
  dot : scope.names.lookup (".0" : Str) = some NameKind.local
  cell : ∀ y ∈ scope.names, y.2 ≠ .cell
  free : ∀ y ∈ scope.names, y.2 = .free → sc.names.lookup y.1 = some .cell ∨ sc.names.lookup y.1 = some .free
  own : ∀ (i : Nat) (y : Str), N[i]? = some y → scope.names.lookup y = some .local → i ∈ own
theorem GnS.has {X : Cx} {scope : Scope} {own : List Nat} (L : GnS X.N X.env.scope scope own) (ok : X.Ok) : ∀ y ∈ scope.names, y.2 = .free → ∃ c, X.env.cells.lookup y.1 = some c := fun y hy e => by
  rcases L.free y hy e with k | k
  · exact ok.has _ (.inl k)
  · exact ok.has _ (.inr k)
section
variable {X : Cx} {pins : List (Addr × Obj)} {σ : L2.St} {H : Hp} {s s5 : Shared}
theorem gx_start {A : Around} {scope : Scope} {code : Value} {fp : List Addr} {pn : List (Addr × Obj)} {own : List Nat} {m : Str → Option Value} (I : Inv X pins σ H s) (L : GnS X.N X.env.scope scope own) (hd : A.handled = none) (hfr : A.frames = some X.stack)
    (hfp : ∀ b ∈ fp, FpOk X pins H b ∧ b < s.heap.objs.size) (hns : s5.heap.Ns s.heap.objs.size m) (kp : ∀ b o, s.heap.get? b = some o → s5.heap.get? b = some o) (hos : s5.os = s.os) (hb : AllBare s5.gens)
    (hpn : ∀ p ∈ pn, s5.heap.get? p.1 = some p.2 ∧ s.heap.objs.size < p.1 ∧ ∀ v, p.2.data ≠ .cell v) :
    Inv (gxCx X A s H scope s.heap.objs.size code fp pn) [] (wipe σ own) H s5 := by
  have e0 := I.env0
  have hfree := L.has I.ok
  have cm : ∀ {y c}, (cloFrom X.env.cells scope.names []).lookup y = some c → X.env.cells.lookup y = some c := fun {y c} e => by
    rcases cloFrom_mem (PySem.mem_of_lookup e) with hm | ⟨h1, h2⟩
    · cases hm
    · obtain ⟨c1, hc⟩ := hfree _ h1 rfl
      have hc : X.env.cells.lookup y = some c1 := hc
      have e2 : c = c1 := by
        rw [h2, hc] <;> rfl
      rw [e2]
      exact hc
  have look : ∀ {y}, scope.names.lookup y = some .free → ∃ c, (cloFrom X.env.cells scope.names []).lookup y = some c := fun {y} hl => by
    have hy : (y, NameKind.free) ∈ scope.names := PySem.mem_of_lookup hl
    exact mem_lookup (cloFrom_has (cells := X.env.cells) (acc := []) hy)
  have nofr : ∀ f, s.heap.objs.size ≤ f → f ∉ frs X.stack := fun f hf z => by
    rcases List.mem_cons.mp (I.stkSub _ z) with e | e
    · have h1 := I.lt
      rw [← e] at h1
      exact Nat.lt_irrefl _ (Nat.lt_of_lt_of_le h1 hf)
    · exact I.nofs hf e
  refine ⟨⟨I.ok.mod, L.kind, I.ok.glob, rfl, Nat.le_refl _, fun y z c e1 e2 => I.ok.inj y z c (cm e1) (cm e2), fun y hy => ?_, fun y c z _ => (by cases (show false = true from z)), fun _ => hd, Around.frames_deeper hfr, .inr ⟨rfl, rfl⟩,
      fun b hb => ⟨Nat.ne_of_lt (hfp b hb).2, fun y c e => (hfp b hb).1.2.2.2.2.1 y c (cm e)⟩, I.bs, Nat.le_trans I.ok.bsz I.sz, fun b o e hb => ?_, fun b hb z => ?_, I.stack, I.stkFree⟩,
    hos, hb, Un.kept kp, ⟨_, hns, fun i y v e1 e2 e3 => ?_⟩, fun y c e => ?_, I.hok.fresh (Nat.le_refl _), fun y c e => I.freeC y c (cm e), fun p hp => ?_, I.hok.kept kp, by rw [wipe_length]; exact I.len⟩
  · have hy : scope.names.lookup y = some .cell ∨ scope.names.lookup y = some .free := hy
    rcases hy with hy | hy
    · exact absurd rfl (L.cell _ (PySem.mem_of_lookup hy))
    · exact look hy
  · rcases (hfp b hb).1.2.2.2.1 with z | z
    · exact I.ok.noex b o e z
    · exact absurd (Nat.lt_of_lt_of_le (Heap.lt_size e) (Nat.le_trans I.ok.bsz z)) (Nat.lt_irrefl _)
  · rcases List.mem_cons.mp (I.stkSub b z) with z | z
    · exact (hfp b hb).1.2.1 z
    · exact (hfp b hb).1.2.2.1 z
  · obtain ⟨e2, hne⟩ := wipe_some e2
    have e3 : Vis scope y := e3
    rcases e3 with k | k | k
    · exact absurd (L.own i y e1 k) hne
    · exact absurd rfl (L.cell _ (PySem.mem_of_lookup k))
    · obtain ⟨m, hn, hl⟩ := I.loc
      have hvis : Vis X.env.scope y := (L.free _ (PySem.mem_of_lookup k) rfl).elim (fun k => .inr (.inl k)) (fun k => .inr (.inr k))
      obtain ⟨w', r, q⟩ := hl i y v e1 e2 hvis
      obtain ⟨c2, h2⟩ := look k
      refine ⟨w', r, .inr ⟨.inr k, c2, h2, ?_⟩⟩
      have c1 := cm h2
      rcases q with ⟨k', _⟩ | ⟨_, c3, e', z⟩
      · have k' : X.env.scope.names.lookup y = some .local := k'
        rcases L.free _ (PySem.mem_of_lookup k) rfl with k2 | k2 <;> rw [show X.env.scope.names.lookup y = _ from k2] at k' <;> cases k'
      · rw [c1] at e'
        cases e'
        exact z.keeps kp
  · obtain ⟨v, z⟩ := I.cell y c (cm e)
    exact ⟨v, z.keeps kp⟩
  · have hp' : p ∈ pn := by
      rcases List.mem_append.mp hp with z | z
      · exact z
      · cases z
    obtain ⟨h1, h2, h3⟩ := hpn p hp'
    exact ⟨h1, I.hok.fresh (Nat.le_of_lt h2), Nat.ne_of_gt h2, nofr _ (Nat.le_of_lt h2), h3⟩
/-- a turn's code over nothing: the frame of the generator expression -/
theorem over_comp {A : Around} {elt : Expr} {gs : List Comprehension} {scope : Scope} {pos : Pos} {it acc : Value} {env : Env} : A.over (.compLoop (.GeneratorExp elt gs scope pos) 0 it acc env) [] = A.deeper env := by
  first
    | rfl
    | (obtain ⟨hd, d, fr, gs, u⟩ := A; simp [Around.over, Around.deeper, marksOver, frameCount, unitsOf, envsOf, guardsOf, pushEnvs, pushGuards, Code.envs, Code.env?, Code.isFrame, Code.guards, Code.isGuard, Code.weight, Code.frames, Code.isCreation, Code.isCaller, Code.cUnits])
end
end Q
end

section
set_option Elab.async false
set_option linter.all false
set_option maxRecDepth 100000
set_option maxHeartbeats 1000000
set_option autoImplicit false
namespace Q
open PySem PySem.Spec PyProof.Rows L2 GenW
theorem inv_same {X : Cx} {pins : List (Addr × Obj)} {σ : L2.St} {H : Hp} {s s' : Shared} (I : Inv X pins σ H s) (h : s'.heap = s.heap) (ho : s'.os = s.os) (hb : AllBare s'.gens) : Inv X pins σ H s' := by
  obtain ⟨h1, g1, d1, t1, o1⟩ := s'
  obtain ⟨h2, g2, d2, t2, o2⟩ := s
  dsimp only at h ho
  subst h ho
  exact ⟨I.ok, I.os, hb, I.base, I.loc, I.cell, I.free, I.freeC, I.pin, I.hok, I.len⟩
/-- all of the turns -/
def allS (it : ItD) (g : D → Ev → Option Ev) (F : Ev → Sto → Res D) : Nat → Nat → Ev → Sto → Res D
  | 0, _, _, st => if it.fin st = true then .ok (.bl true) st else .err
  | k + 1, i, env, st => match it.item i st with
    | none => .err
    | some d => match g d env with
      | none => .err
      | some env1 => match F env1 st with
        | .ok (.bl true) s => allS it g F k (i + 1) env1 s
        | .ok (.bl false) s => .ok (.bl false) s
        | _ => .err
section
variable {X : Cx} {pins : List (Addr × Obj)} {H : Hp} {s : Shared}
/-- what all's end wants -/
def GFin (X : Cx) (H : Hp) (s : Shared) (fp : List Addr) (Q : VK) (b : Bool) (s1 : Shared) : Prop := ∃ H', s1.os = s.os ∧ AllBare s1.gens ∧ Un (frs X.stack) fp H H' s.heap s1.heap ∧ HOk X.prog X.w H' s1.heap ∧ Q (.bl b) H'
def GYld (X : Cx) (H : Hp) (s : Shared) (fp : List Addr) (Q : VK) (a : Addr) (g : Nat) : Protocol := fun n s₀ v s1 kap => ∃ b : Bool, v = .bool b ∧ s1.heap.IsGen a g ∧ s1.heap.NoLimit ∧ AllBare s1.gens ∧ (b = false → GFin X H s fp Q false s1) ∧
  (b = true → ∀ s'' : Shared, s''.heap = s1.heap → s''.os = s1.os → AllBare s''.gens → kap (.send .none) s'')
def GRet (X : Cx) (H : Hp) (s : Shared) (fp : List Addr) (Q : VK) : GenEnd := fun n s₀ r s1 => ((r = .ok (.ret .none) ∨ r = .ok .next) ∧ GFin X H s fp Q true s1) ∨ ∃ e, r = .error e ∧ False
/-- ahead of turn i -/
def GLoop (X : Cx) (A : Around) (H : Hp) (s : Shared) (scope : Scope) (code : Value) (fp : List Addr) (pn : List (Addr × Obj)) (P : Par) (tn : Nat → Heap → Prop) (itd : ItD) (g : D → Ev → Option Ev) (Fe : Ev → Sto → Res D) (M0 : List Addr) (H0 : Hp) (Wx : Value → Option Addr → Hp → Prop) (Q : VK) (i : Nat) (s1 : Shared) : Prop :=
  ∃ (M' : List Addr) (H' : Hp) (σ' : L2.St) (env : Ev) (st : Sto), Inv (gxCx X A s H scope s.heap.objs.size code fp pn) [] σ' H' s1 ∧ tn i s1.heap ∧ (∀ b ∈ fp, H' b = none) ∧ Stp M0 H0 M' H' ∧ EvR X.K P M' H' σ' env ∧ At X.K P M' H' st ∧ i ≤ itd.n ∧ Post X.K P M' H' (DV X.K) Wx (allS itd g Fe (itd.n - i) i env st) Q
theorem gx_seg {A : Around} {scope : Scope} {code : Value} {fp : List Addr} {pn : List (Addr × Obj)} {P : Par} {tn : Nat → Heap → Prop} {J : It} {itd : ItD} {gt : D → Ev → Option Ev} {Fe : Ev → Sto → Res D} {M0 : List Addr} {H0 : Hp} {Wx : Value → Option Addr → Hp → Prop} {Q : VK} {tg elt iter : Expr} {pos : Pos} {it a : Addr} {g : Nat} {own : List Nat}
    (hh : A.handled = none) (hco : scope.isCoroutine = false) (T : Turn X.prog X.w X.K tg J fp it tn) (hJ : ItOk X.K P M0 H0 itd J) (hpn : ∀ p ∈ pn, p.1 ∉ fp)
    (hgen : ∀ h : Heap, (∀ p ∈ pn, h.get? p.1 = some p.2) → h.IsGen a g)
    (hg : PG (gxCx X A s H scope s.heap.objs.size code fp pn) tg (tP X.K P gt)) (he : PE (gxCx X A s H scope s.heap.objs.size code fp pn) elt (tE X.K P W0 Fe)) :
    ∀ (k i : Nat) (s₀ s1 : Shared), itd.n - i = k → GLoop X A H s scope code fp pn P tn itd gt Fe M0 H0 Wx Q i s1 →
      Seg (model X.prog X.w) A (GRet X H s fp Q) (GYld X H s fp Q a g) k s₀ (.compLoop (.GeneratorExp elt [⟨tg, iter, [], 0⟩] scope pos) 0 (.ref it) .none (gxE X scope s.heap.objs.size code))
        ((model X.prog X.w).den (.compLoop (.GeneratorExp elt [⟨tg, iter, [], 0⟩] scope pos) 0 (.ref it) .none (gxE X scope s.heap.objs.size code))) [] s1 := by
  obtain ⟨Y, hY⟩ : ∃ Y, Y = gxCx X A s H scope s.heap.objs.size code fp pn := ⟨_, rfl⟩
  have stat : ∀ {σ' : L2.St} {H' : Hp} {s' : Shared}, Inv (gxCx X A s H scope s.heap.objs.size code fp pn) [] σ' H' s' → (∀ b ∈ fp, H' b = none) → ∀ b ∈ fp, FpOk (gxCx X A s H scope s.heap.objs.size code fp pn) [] H' b := fun {σ' H' s'} I' hn b hb =>
    ⟨hn b hb, (I'.ok.exf b hb).1, I'.ok.exfs b hb, .inl hb, fun x c e => (I'.ok.exf b hb).2 x c e, fun p hp e => by
      rcases List.mem_append.mp hp with z | z
      · exact hpn p z (by rw [e]; exact hb)
      · cases z⟩
  have pinned : ∀ {ps : List (Addr × Obj)} {σ' : L2.St} {H' : Hp} {s' : Shared}, Inv (gxCx X A s H scope s.heap.objs.size code fp pn) ps σ' H' s' → s'.heap.IsGen a g := fun {ps σ' H' s'} I' => hgen _ fun p hp => (I'.pin p (List.mem_append_left _ hp)).1
  intro k
  induction k with
  | zero =>
    intro i s₀ s1 hk hl
    obtain ⟨M', H', σ', env, st, I, ht, hn, sp, sl, at_, hi, p⟩ := hl
    have hin : i = itd.n := by omega
    subst hin
    show Seg _ A _ _ _ s₀ _ ((compTurn (.GeneratorExp elt [⟨tg, iter, [], 0⟩] scope pos) 0 (.ref it) .none (gxE X scope s.heap.objs.size code)).onRaise (leaving (gxE X scope s.heap.objs.size code))) [] s1
    rw [compTurn_gen, Sem.onRaise_eq_wrap]
    refine seg_bind_wrap (wpAny_standAt ?_)
    rw [Nat.sub_self, allS] at p
    split at p
    · rename_i hf
      refine seg_bind_wrap ?_
      rw [over_comp]
      refine thnF (T.done (gxCx X A s H scope s.heap.objs.size code fp pn) rfl rfl rfl rfl itd.n [] s1 σ' H' (fun _ _ => False) I (stat I hn) ht ((hJ itd.n M' H' st sp at_).2 (Nat.le_refl _) hf)) fun r s2 ⟨hr, I2⟩ => ?_
      subst hr
      exact seg_end (.ok .next) (.inl ⟨.inr rfl, H', I2.os, I2.bare, I2.base, I2.hok, p _ M' H' (Stp.refl _ _) at_ (dv_bl.mpr rfl)⟩)
    · exact p.elim
  | succ k ih =>
    intro i s₀ s1 hk hl
    obtain ⟨M', H', σ', env, st, I, ht, hn, sp, sl, at_, hi, p⟩ := hl
    have hlt : i < itd.n := by omega
    rw [hk, allS] at p
    show Seg _ A _ _ _ s₀ _ ((compTurn (.GeneratorExp elt [⟨tg, iter, [], 0⟩] scope pos) 0 (.ref it) .none (gxE X scope s.heap.objs.size code)).onRaise (leaving (gxE X scope s.heap.objs.size code))) [] s1
    rw [compTurn_gen, Sem.onRaise_eq_wrap]
    refine seg_bind_wrap (wpAny_standAt ?_)
    cases e1 : itd.item i st with
    | none => rw [e1] at p; exact p.elim
    | some d =>
    rw [e1] at p
    dsimp only at p
    cases e2 : gt d env with
    | none => rw [e2] at p; exact p.elim
    | some env1 =>
    rw [e2] at p
    dsimp only at p
    obtain ⟨go, yl⟩ := (hJ i M' H' st sp at_).1 d hlt e1
    refine seg_bind_wrap ?_
    rw [over_comp]
    refine thnF (T.item (gxCx X A s H scope s.heap.objs.size code fp pn) rfl rfl rfl rfl i [] s1 σ' H' (fun _ _ => False) I (stat I hn) ht go) fun r s2 ⟨u, hr, h2⟩ => ?_
    subst hr
    refine seg_bind_wrap ?_
    rw [over_comp]
    refine thnF h2 fun _ s3 ⟨x, H3, I3, r3, y3, t3, n3⟩ => ?_
    obtain ⟨M3, sp3, a3, d3⟩ := yl x H3 y3
    have sl3 := sl.mono at_.mok sp3
    have I3' := I3.pinned (stat I3 n3) (T.obj _ _ t3)
    refine seg_bind_wrap ?_
    rw [over_comp]
    refine thnF (hg.run _ s3 σ' H3 x u (fun σ4 H4 => ∃ M4, Stp M3 H3 M4 H4 ∧ At X.K P M4 H4 st ∧ EvR X.K P M4 H4 σ4 env1) I3' r3 ⟨M3, env, st, d, sl3, a3, d3, env1, e2, fun σ4 M4 H4 s4 a4 l4 => ⟨M4, s4, a4, l4⟩⟩) fun _ s4 ⟨σ4, H4, I4, M4, sp4, a4, sl4⟩ => ?_
    refine seg_bind_wrap ?_
    simp only [List.forIn_nil]
    refine wpAny_pure ?_
    simp only [if_true]
    have hy : ∀ v, yieldOut (gxE X scope s.heap.objs.size code) v = yieldValue v := fun v => by simp only [yieldOut]; rw [show (gxE X scope s.heap.objs.size code).scope.isCoroutine = false from hco]; simp only [Bool.false_eq_true, if_false]
    simp only [hy]
    rw [Sem.bind_eq_wrap', Sem.bind_eq_wrap', Sem.wrap_wrap, Sem.wrap_wrap]
    cases e3 : Fe env1 st with
    | exc c d' st' => rw [e3] at p; exact p.elim
    | err => rw [e3] at p; exact p.elim
    | ok b st' =>
    rw [e3] at p
    cases b with
    | bl b =>
      have p4 := Post.step (sp3.trans sp4) p
      refine seg_wrap ?_
      rw [over_comp]
      refine thnF (he.run _ s4 σ4 H4 (fun y H5 => ∃ M5, y = .bl b ∧ Stp M4 H4 M5 H5 ∧ At X.K P M5 H5 st') I4 ⟨M4, env1, st, sl4, a4, ?_⟩) fun y s5 ⟨v, H5, I5, r5, M5, hv, sp5, a5⟩ => ?_
      · rw [e3]
        exact fun v M5 H5 s5 a5 q5 => ⟨M5, dv_bl.mp q5, s5, a5⟩
      · subst hv
        have hyv : y = .bool b := r5
        subst hyv
        have p5 := Post.step sp5 p4
        refine seg_at (seg_yield rfl rfl rfl ⟨b, rfl, pinned I5, I5.nolimit, I5.bare, fun hb => ?_, fun hb s'' h1 h2 h3 => ?_⟩)
        · subst hb
          exact ⟨H5, I5.os, I5.bare, I5.base, I5.hok, p5 _ M5 H5 (Stp.refl _ _) a5 (dv_bl.mpr rfl)⟩
        · subst hb
          have pin' : ∀ b ∈ fp, ∀ o, s3.heap.get? b = some o → s5.heap.get? b = some o ∧ H5 b = none := fun b hb o e =>
            let z := I5.pin (b, o) (List.mem_append_right _ (List.mem_append_right _ (mem_pinsAt hb e)))
            ⟨z.1, z.2.1⟩
          refine seg_again rfl (ih (i + 1) s'' s'' (by omega) ⟨M5, H5, σ4, env1, st', inv_same (I5.unpinned (pins := [])) h1 h2 h3, ?_, fun b hb => ?_, ((sp.trans sp3).trans sp4).trans sp5, sl4.mono a4.mok sp5, a5, by omega, ?_⟩)
          · rw [h1]
            exact T.keep _ _ _ t3 fun b hb o e => (pin' b hb o e).1
          · obtain ⟨o, e, _⟩ := T.obj _ _ t3 b hb
            exact (pin' b hb o e).2
          · rw [show itd.n - (i + 1) = k by omega]
            exact p5
    | _ => exact p.elim
end
end Q
end

section
set_option Elab.async false
set_option linter.all false
set_option maxRecDepth 100000
set_option maxHeartbeats 1000000
set_option autoImplicit false
namespace Q
open PySem PySem.Spec PyProof.Rows L2 GenW
section
variable {X : Cx} {P : Par} {W : WX}
/-- from the beginning -/
theorem gx_seg0 {A : Around} {H : Hp} {s : Shared} {scope : Scope} {code : Value} {fp : List Addr} {pn : List (Addr × Obj)} {tn : Nat → Heap → Prop} {J : It} {itd : ItD} {gt : D → Ev → Option Ev} {Fe : Ev → Sto → Res D} {M0 : List Addr} {H0 : Hp} {Wx : Value → Option Addr → Hp → Prop} {Q : VK} {tg elt iter : Expr} {pos : Pos} {it a : Addr} {g : Nat}
    (hh : A.handled = none) (hco : scope.isCoroutine = false) (T : Turn X.prog X.w X.K tg J fp it tn) (hJ : ItOk X.K P M0 H0 itd J) (hpn : ∀ p ∈ pn, p.1 ∉ fp)
    (hgen : ∀ h : Heap, (∀ p ∈ pn, h.get? p.1 = some p.2) → h.IsGen a g)
    (hg : PG (gxCx X A s H scope s.heap.objs.size code fp pn) tg (tP X.K P gt)) (he : PE (gxCx X A s H scope s.heap.objs.size code fp pn) elt (tE X.K P W0 Fe)) {s₀ s1 : Shared} (hl : GLoop X A H s scope code fp pn P tn itd gt Fe M0 H0 Wx Q 0 s1) :
    Seg (model X.prog X.w) A (GRet X H s fp Q) (GYld X H s fp Q a g) itd.n s₀ (.compStart (.GeneratorExp elt [⟨tg, iter, [], 0⟩] scope pos) 0 (.ref it) .none (gxE X scope s.heap.objs.size code))
      ((model X.prog X.w).den (.compStart (.GeneratorExp elt [⟨tg, iter, [], 0⟩] scope pos) 0 (.ref it) .none (gxE X scope s.heap.objs.size code))) [] s1 := by
  have loop := gx_seg (own := []) (iter := iter) (pos := pos) hh hco T hJ hpn hgen hg he itd.n 0 s₀ s1 (Nat.sub_zero _) hl
  have ht : tn 0 s1.heap := let ⟨_, _, _, _, _, _, ht, _⟩ := hl; ht
  show Seg _ A _ _ _ s₀ _ ((compStart (.GeneratorExp elt [⟨tg, iter, [], 0⟩] scope pos) 0 (.ref it) .none (gxE X scope s.heap.objs.size code)).onRaise (leaving (gxE X scope s.heap.objs.size code))) [] s1
  unfold compStart
  rw [Sem.onRaise_eq_wrap]
  show Seg _ A _ _ _ s₀ _ ((ask >>= _).wrap _ _ _ _) [] s1
  refine seg_bind_wrap (wpAny_askSetting ?_)
  split
  · exact seg_again rfl loop
  · first
      | exact seg_bind_wrap (wpAny_rule (seg_bind_wrap (wpAny_standAt (seg_bind_wrap (T.self _ 0 s1 _ _ ht (seg_again rfl loop))))))
      | (refine seg_bind_wrap (wpAny_rule ?_); show Seg _ A _ _ _ s₀ _ ((standAt iter.pos >>= _).wrap _ _ _ _) [] s1; exact seg_bind_wrap (wpAny_standAt (seg_bind_wrap (T.self _ 0 s1 _ _ ht (seg_again rfl loop)))))
/-- all over what has been made -/
theorem gx_all {A : Around} {H : Hp} {s s6 : Shared} {fp : List Addr} {Q : VK} {a : Addr} {g n : Nat} {c : Code} {R : Result → Shared → Prop} (hh : A.handled = none) (hd : A.depth + 5 < recursionLimit)
    (hR : ∀ b s', GFin X H s fp Q b s' → R (.ok (.ret (.bool b))) s') (hg : s6.heap.IsGen a g) (hl : s6.heap.NoLimit) (hb : AllBare s6.gens) (hgs : s6.gens[g]? = some (.fresh c))
    (hseg : ∀ s'' : Shared, s''.heap = s6.heap → s''.os = s6.os → AllBare s''.gens → Seg (model X.prog X.w) A.in1.in1 (GRet X H s fp Q) (GYld X H s fp Q a g) n s'' c ((model X.prog X.w).den c) [] s'') :
    codeAny (model X.prog X.w) A (.builtin "all.loop" ⟨[.ref a], []⟩) R s6 := by
  have fin : ∀ {b : Bool} {s1 : Shared} {gs : GenState}, gs.bare = true → GFin X H s fp Q b s1 → GFin X H s fp Q b (s1.setGen g gs) := fun {b s1 gs} hgb ⟨H', h1, h2, h3, h4, h5⟩ => ⟨H', h1, allBare_setGen h2 hgb, h3, h4, h5⟩
  refine all_loop (fun n s' => s'.heap.IsGen a g ∧ s'.heap.NoLimit ∧ AllBare s'.gens ∧ ∃ gs, s'.gens[g]? = some gs ∧ gs.Goes (model X.prog X.w) A.in1.in1 (GRet X H s fp Q) (GYld X H s fp Q a g) n (.send .none) (s'.setGen g .running)) ?_ n s6 ⟨hg, hl, hb, _, hgs, rfl, hseg _ rfl rfl (allBare_setGen hb rfl)⟩
  rintro n s' ⟨ig, nl, bare, gs, hgs, go⟩
  have hgl : g < s'.gens.size := (Array.getElem?_eq_some_iff.mp hgs).1
  refine wpAny_gsz (n := g + 1) hgl ?_
  refine next_genG (F := fun _ _ s1 => GFin X H s fp Q true s1) (Er := fun _ _ => False) hh nl (by show A.depth < _; omega) ig hgs go (fun v s₁ gs' hgb hv hsz => ?_) (fun s₁ hp h' hk hsz => ?_) fun e s₁ hx => hx.elim
  · obtain ⟨b, rfl, i1, i2, i3, hf, ht⟩ := hv
    have hsz1 : g < s₁.gens.size := by
      have q : (s₁.setGen g gs').gens.size = s₁.gens.size := setGen_size _ _ _
      have hsz' : g + 1 ≤ (s₁.setGen g gs').gens.size := hsz
      omega
    cases b with
    | false => exact .inr (.inl ⟨rfl, hR _ _ (fin hgb (hf rfl))⟩)
    | true =>
      have k := ht rfl ((s₁.setGen g gs').setGen g .running) rfl rfl (allBare_setGen (allBare_setGen i3 hgb) rfl)
      cases n with
      | zero => exact k.elim
      | succ m => exact .inr (.inr ⟨rfl, m, Nat.lt_succ_self m, i1, i2, allBare_setGen i3 hgb, gs', setGen_at hsz1, k⟩)
  · obtain ⟨H', h1, h2, h3, h4, h5⟩ := hp
    refine .inl ⟨rfl, hR true _ ⟨H', h1, allBare_setGen h2 rfl, ?_, ?_, h5⟩⟩
    · exact h3.trans (Un.kept hk)
    · exact h4.kept hk
/-- all(element for target in iter) -/
theorem q_all {c t : Addr} {scope : Scope} {own : List Nat} {k : Nat} {tg elt iter : Expr} {p pos gpos : Pos} {Fi : Ev → Sto → Res ItD} {gt : D → Ev → Option Ev} {Fe : Ev → Sto → Res D}
    (hr : Room (k + 2) X.A) (hgd : X.A.guards = some []) (hgl : Gl X "all") (hm : X.mg "all" = none) (hbt : bootBuiltins "all" = some (.builtin "all")) (TB : LamX.TabB X.base X.mg c t) (hcode : X.env.code = .ref c) (hmT : (t, X.env.qual ++ "<genexpr>") ∈ P.T) (hu : ∀ p ∈ P.T, p.1 = t → p.2 = X.env.qual ++ "<genexpr>")
    (L : GnS X.N X.env.scope scope own) (hi : PI X tg iter (tI X.K P W Fi)) (hg : ∀ (A : Around) (s : Shared) (H : Hp) (code : Value) (fp : List Addr) (pn : List (Addr × Obj)), Room k (A.deeper (gxE X scope s.heap.objs.size code)) → A.guards = some [] → PG (gxCx X A s H scope s.heap.objs.size code fp pn) tg (tP X.K P gt))
    (he : ∀ (A : Around) (s : Shared) (H : Hp) (code : Value) (fp : List Addr) (pn : List (Addr × Obj)), Room k (A.deeper (gxE X scope s.heap.objs.size code)) → A.guards = some [] → PE (gxCx X A s H scope s.heap.objs.size code fp pn) elt (tE X.K P W0 Fe))
    (hs : ∀ v, genFold iter X.env v = pure v) (hes : starEach [.GeneratorExp elt [⟨tg, iter, [], 0⟩] scope gpos] X.env = (false, eval (.GeneratorExp elt [⟨tg, iter, [], 0⟩] scope gpos) X.env) :: starEach [] X.env) :
    PE X (.Call (.Name "all" p) [.GeneratorExp elt [⟨tg, iter, [], 0⟩] scope gpos] [] pos) (tE X.K P W fun env st => (Fi env st).bind fun it s1 => allS it gt Fe it.n 0 (wipeE env own) s1) := by
  refine ⟨fun pins s σ H Q I h => ?_⟩
  obtain ⟨M, env, st, sl, at_, pp⟩ := h
  refine wpAny_Call_Name_kw (ld_blt I hgl hm hbt ?_)
  refine PyProof.Rows.callWith_builtin1 ?_ hes (by rfl)
  rw [hes]
  show wpAny _ _ (spliced ((false, eval (.GeneratorExp elt [⟨tg, iter, [], 0⟩] scope gpos) X.env) :: backTo pos (starEach [] X.env))) _ _ s
  refine Calls.spliced_cons ?_
  refine wpAny_GeneratorExp_make L.co (closure_ok (L.has I.ok)) L.cell L.dot L.kind (by have := hr.dp; omega) ?_ hs
  refine wpAny_mono (hi.run pins s σ H (fun J H1 => ∃ itd M1 st1, At X.K P M1 H1 st1 ∧ EvR X.K P M1 H1 σ env ∧ ItOk X.K P M1 H1 itd J ∧ Post X.K P M1 H1 (DV X.K) (fun c d H => W c d σ H) (allS itd gt Fe itd.n 0 (wipeE env own) st1) Q) I ?_) (fun xv s1 h1 => wpAny_mono h1 (fun itv s2 h2 => ?_) fun _ _ e => e) fun _ _ e => e
  · exact tG.go sl at_ pp fun J H1 itd M1 st1 s1 a1 sl1 r1 p1 => ⟨itd, M1, st1, a1, sl1, r1, p1⟩
  obtain ⟨it, fp, tn, J, H1, rfl, I1, T, t0, f0, itd, M1, st1, a1, sl1, hJ, p1⟩ := h2
  refine ⟨I1.nolimit, ?_⟩
  refine gen_code I1 TB hcode hmT hu a1.tab fun code H2 s4 I2 hE T2 hfr hkp => ?_
  obtain ⟨bm, ob, e1, e2, e3, e4, e5, e6, e7, e8⟩ := TB.bm
  refine wpAny_builtinsFor (m := X.mg) (by rw [I2.ok.glob]; exact I2.mod.glob.keeps I2.bk) e1 e2 (I2.bk _ _ e5) e6 e7 e8 ?_
  intro h' hns hsb
  refine Calls.spliced_nil ?_
  have hdp := hr.dp
  have hun := hr.un
  have l2 : ∀ b ∈ fp, b < s2.heap.objs.size := fun b hb => let ⟨o, e, _⟩ := T.obj _ _ t0 b hb; Heap.lt_size e
  have l4 : ∀ b ∈ fp, b < s4.heap.objs.size := fun b hb => let ⟨o, e, _⟩ := T.obj _ _ t0 b hb; Heap.lt_size (hkp b o (f0 b hb).1 e)
  have n2 : ∀ b ∈ fp, H2 b = none := fun b hb => hfr b (l2 b hb) (f0 b hb).1
  have f2 : ∀ b ∈ fp, FpOk X pins H2 b := fun b hb => ⟨n2 b hb, (f0 b hb).2⟩
  have t4 : tn 0 s4.heap := T.keep _ _ _ t0 fun b hb o e => hkp b o (f0 b hb).1 e
  have hsz : h'.objs.size = s4.heap.objs.size + 1 := by rw [hsb.1, Heap.size_push]
  have keep' : ∀ b o, s4.heap.get? b = some o → h'.get? b = some o := fun b o e => hsb.extBut b o (Nat.ne_of_lt (Heap.lt_size e)) (Heap.get?_push_of_some _ e)
  obtain ⟨go, hgo⟩ : ∃ go : Obj, go = { cls := .type "generator", data := .fields #[.int s4.gens.size 0, .str "<genexpr>" (s4.toks + 1), .str (X.env.qual ++ "<genexpr>") (s4.toks + 1 + 1)] } := ⟨_, rfl⟩
  have hpush : (h'.push go).get? h'.objs.size = some go := by rw [hgo]; exact Heap.get?_push_size _ rfl
  have keep5 : ∀ b o, s4.heap.get? b = some o → (h'.push go).get? b = some o := fun b o e => Heap.get?_push_of_some _ (keep' b o e)
  have hgen : ∀ h : Heap, (∀ p ∈ [(h'.objs.size, go)], h.get? p.1 = some p.2) → h.IsGen h'.objs.size s4.gens.size := fun h hp => by
    have z := hp (h'.objs.size, go) (List.mem_singleton.mpr rfl)
    subst hgo
    exact ⟨_, _, _, z, rfl, rfl, rfl⟩
  rw [← hgo]
  have hfpn : ∀ p ∈ [(h'.objs.size, go)], p.1 ∉ fp := fun p hp hb => by
    rw [List.mem_singleton.mp hp] at hb
    have := l4 _ hb
    have h9 : (h'.objs.size : Nat) < s4.heap.objs.size := this
    omega
  have sp2 : Stp M1 H1 M1 H2 := Stp.ext hE
  have p2 := Post.step sp2 p1
  have a2 : At X.K P M1 H2 st1 := a1.ext hE T2
  have sl2 : EvR X.K P M1 H2 σ env := sl1.mono a1.mok sp2
  have hrk : Room (k + 1) X.A.in1.in1 := ⟨hr.hd, by show X.A.depth + 3 * (k + 1) + 5 < _; omega, by show X.A.units + 1 + 1 + 16 * (k + 1) + 200 < _; omega⟩
  refine call_function_tree F.kind_all F.plain_all F.entry_all (F.args_all1 _) ?_
  unfold Builtin.«all»
  refine wpAny_bind (m := oneArg "all" _) (wpAny_pure ?_)
  refine wpAny_bind (wpAny_pyIter_gen (g := s4.gens.size) (hgen _ fun p hp => by rw [List.mem_singleton.mp hp]; exact hpush) ?_)
  refine wpAny_pure ⟨plainId_quiet F.plain_all_loop _, gx_all (X := X) (A := X.A) (H := H2) (s := s4) (fp := fp) (Q := Q) (g := s4.gens.size) (n := itd.n) (c := .compStart (.GeneratorExp elt [⟨tg, iter, [], 0⟩] scope gpos) 0 (.ref it) .none (gxE X scope s4.heap.objs.size code)) hr.hd (by omega) (fun b s' hf => ?_) (hgen _ fun p hp => by rw [List.mem_singleton.mp hp]; exact hpush) (I2.nolimit.keeps keep5) (AllBare.push I2.bare rfl) (Array.getElem?_push_size ..) fun s'' h1 h2 h3 => ?_⟩
  · obtain ⟨H', g1, g2, g3, g4, g5⟩ := hf
    exact ⟨.bl b, H', I2.call' (ch := fp) g1 g3 g4 g2 fun b hb => ⟨(f2 b hb).2.2.2.1, (f2 b hb).2.1, (f2 b hb).2.2.2.2.1, (f2 b hb).2.2.2.2.2⟩, rfl, g5⟩
  · have k5 : ∀ b o, s4.heap.get? b = some o → s''.heap.get? b = some o := fun b o e => by rw [h1]; exact keep5 b o e
    have hns5 : s''.heap.Ns s4.heap.objs.size (fun y => if y = (".0" : Str) then some (.ref it) else none) := by
      rw [h1]
      exact hns.push _
    have I5 := gx_start (A := X.A.in1.in1) (s5 := s'') (code := code) (fp := fp) (pn := [(h'.objs.size, go)]) (own := own) I2 L hr.hd I2.ok.frames (fun b hb => ⟨f2 b hb, l4 b hb⟩) hns5 k5 h2 h3 fun p hp => by
      rw [List.mem_singleton.mp hp]
      refine ⟨by rw [h1]; exact hpush, by show s4.heap.objs.size < h'.objs.size; omega, fun v q => ?_⟩
      rw [hgo] at q
      cases q
    refine gx_seg0 (A := X.A.in1.in1) (H := H2) (s := s4) (code := code) (J := J) (tn := tn) (itd := itd) (M0 := M1) (H0 := H1) hr.hd L.co T hJ hfpn hgen (hg _ _ _ _ _ _ (hrk.deeper _) hgd) (he _ _ _ _ _ _ (hrk.deeper _) hgd) ⟨M1, H2, _, wipeE env own, st1, I5, T.keep _ _ _ t4 fun b _ o e => k5 b o e, n2, sp2, sl2.wipe own, a2, Nat.zero_le _, by rw [Nat.sub_zero]; exact p2⟩
end
end Q
end

section
set_option Elab.async false
set_option linter.all false
set_option maxRecDepth 100000
set_option maxHeartbeats 4000000
set_option autoImplicit false
/-! More of tuples: turned round, times 0 and 1, what is in them; bits; None. -/
namespace Q
open PySem PySem.Spec PyProof.Rows L2 HT
/-! ### t[::-1] -/
section
variable {prog : Program} {w : World} {A : Around} {E : Value → Shared → Prop} {s : Shared}
theorem applied_back {sl : Addr} {vs : Value} {n : Nat} {Q : Int × Int × Nat → Shared → Prop} (hs : s.heap.IsSliceOf sl .none .none vs) (ps : IsPart vs (some (-1)))
    (h : Q ((n : Int) - 1, -1, n) s) : wpAny (model prog w) A (Builtin.Slice.sliceApplied (.ref sl) (pure (n : Int))) Q E s := by
  obtain ⟨ob, hob, _, hfs⟩ := id hs
  unfold Builtin.Slice.sliceApplied Builtin.Slice.sliceFields
  refine wpAny_bind (wpAny_bind (wpAny_field hob hfs (x := .none) rfl (wpAny_bind (wpAny_field hob hfs (x := .none) rfl (wpAny_bind (wpAny_field hob hfs (x := vs) rfl (wpAny_pure ?_)))))))
  refine wpAny_bind (slicePart_ ps ?_)
  show wpAny _ _ (if ((-1 : Int) == 0) = true then _ else _) _ _ s
  rw [if_neg (by decide)]
  refine wpAny_bind (slicePart_none (wpAny_bind (slicePart_none (wpAny_bind (wpAny_pure ?_)))))
  have e : Builtin.Slice.sliceAdjust none none (-1) (n : Int) = ((n : Int) - 1, -1) := by
    simp [Builtin.Slice.sliceAdjust]
  have e2 : Builtin.Slice.slicePlaces ((n : Int) - 1) (-1) (-1) = n := by
    unfold Builtin.Slice.slicePlaces
    simp
    try omega
  show wpAny _ _ (match Builtin.Slice.sliceAdjust none none (-1) (n : Int) with | (lo, hi) => pure (lo, (-1 : Int), Builtin.Slice.slicePlaces lo hi (-1))) _ _ s
  rw [e]
  show wpAny _ _ (pure ((n : Int) - 1, (-1 : Int), Builtin.Slice.slicePlaces ((n : Int) - 1) (-1) (-1))) _ _ s
  rw [e2]
  exact wpAny_pure h
theorem get_back {t sl : Addr} {items : Array Value} {vs : Value} {Q : Value → Shared → Prop} (ht : IsTup s.heap t items) (hs : s.heap.IsSliceOf sl .none .none vs) (ps : IsPart vs (some (-1)))
    (h : Q (.ref s.heap.objs.size) { s with heap := s.heap.push { cls := .type "tuple", data := .seq items.toList.reverse.toArray } }) (hz : items.size ≤ sizeLine) : wpAny (model prog w) A (getItem (.ref t) (.ref sl)) Q E s := by
  obtain ⟨ob, hob, hcb, _⟩ := id hs
  have hTy : s.TypeIs (.ref sl) "slice" := ⟨ob, hob, hcb⟩
  unfold getItem
  try (with_reducible refine (wpAny_holding ?_))
  first
    | refine wpAny_bind (wpAny_pure ?_)
    | skip
  refine wpAny_bind (wpAny_sequenceKey ht.typeIs (by decide) (wpAny_bind (wpAny_callSpecial?_slot (name := Str.ofString "__getitem__") ht.typeIs PyProof.Rows.slot_tuple_getitem (wpAny_call_entry PyProof.Rows.slot_tuple_getitem ht.typeIs entry_tuple_getitem ?_ (args_tuple_getitem _ _)))))
  show wpAny _ _ (Builtin.Tuple.tupleItemsOf (Value.ref t) >>= _) _ _ s
  refine wpAny_bind (tupleItemsOf_ ht (wpAny_bind (wpAny_typeOf hTy ?_)))
  rw [if_pos (by decide)]
  refine wpAny_bind (applied_back hs ps ?_)
  have hno : (((items.size : Int) - 1) == 0 && (-1 : Int) == 1 && items.size == items.size) = false := by simp
  show wpAny _ _ (if (((items.size : Int) - 1) == 0 && (-1 : Int) == 1 && items.size == items.size) = true then _ else _) _ _ s
  rw [hno, if_neg Bool.false_ne_true]
  have e : ((List.range items.size).filterMap fun (k : Nat) => items[(((items.size : Int) - 1) + (k : Int) * (-1)).toNat]?) = items.toList.reverse := by
    have e1 := PySem.W.krv_pick items
    have e2 : (sliceBounds none none (some (-1)) items.size) = ((items.size : Int) - 1, -1, -1) := PySem.W.krv_bounds _
    unfold slicePick at e1
    rw [e2] at e1
    rw [show ((items.size : Int) - 1, (-1 : Int), (-1 : Int)).1 = (items.size : Int) - 1 from rfl, PySem.W.krv_sliceRange, List.filterMap_map] at e1
    have e5 : (fun (k : Nat) => items[(((items.size : Int) - 1) + (k : Int) * (-1)).toNat]?) = ((fun x => items[x]?) ∘ fun k => items.size - 1 - k) := by
      funext k
      have e6 : (((items.size : Int) - 1) + (k : Int) * (-1)).toNat = items.size - 1 - k := by omega
      rw [e6]; rfl
    rw [e5]
    exact congrArg Array.toList e1
  rw [e]
  have hsz : sizeOk (.seq items.toList.reverse.toArray) := by
    show items.toList.reverse.toArray.size ≤ sizeLine
    rw [List.size_toArray, List.length_reverse, Array.length_toList]
    exact hz
  first
    | exact wpAny_bind (m := Builtin.Tuple.tupleExact _) (wpAny_newObj_type (wpAny_pure ⟨_, rfl, wpAny_pure h⟩) hsz)
    | exact wpAny_bind (m := Builtin.Tuple.tupleExact _) (wpAny_newObj_type (wpAny_bind (wpAny_pure (wpAny_pure ⟨_, rfl, wpAny_pure h⟩))) hsz)
    | exact wpAny_bind (wpAny_bind (m := Builtin.Tuple.tupleExact _) (wpAny_newObj_type (wpAny_pure (wpAny_pure ⟨_, rfl, wpAny_pure h⟩)) hsz))
    | exact wpAny_bind (wpAny_bind (m := Builtin.Tuple.tupleExact _) (wpAny_newObj_type (wpAny_pure ⟨_, rfl, wpAny_pure h⟩) hsz))
end
section
variable {X : Cx} {P : Par} {W : WX}
def tBackT (K : PySem.W.Frag) (te : TE) : TE := fun σ H Q => te σ H fun x H1 => ∃ a xs, x = .ref a ∧ SqT K H1 a xs ∧ ∀ p, H1 p = none → Q (.ref p) (upd H1 p (.tup xs.reverse))
theorem pe_backT {e : Expr} {te : TE} {k : Nat} {p1 p2 p3 pos : Pos} (he : PE X e te) : PE X (.Subscript e (.Slice none none (some (.UnaryOp .USub (.Constant (.int 1) k p1) p2)) p3) pos) (tBackT X.K te) := by
  refine ⟨fun pins s σ H Q I h => Subscript_ (thn (he.run pins s σ H _ I h) fun v s1 ⟨x, H1, I1, r1, a, xs, ex, hx, q⟩ => ?_)⟩
  subst ex
  cases r1
  have hst : PO X (some (.UnaryOp .USub (.Constant (.int 1) k p1) p2)) (tPart (tUn (rU fun i => .int (-i)) (tC (.int 1)))) := po_some (pe_un un_neg pe_int)
  refine wpAny_Slice (thn (po_none.run pins s1 σ H1 (fun o H2 => o = none ∧ H2 = H1) I1 ⟨rfl, rfl⟩) fun vl s2 ⟨l, H2, I2, pl, el, e2⟩ => ?_)
  subst el e2
  refine thn (po_none.run pins s2 σ H2 (fun o H3 => o = none ∧ H3 = H2) I2 ⟨rfl, rfl⟩) fun vu s3 ⟨u, H3, I3, pu, eu, e3⟩ => ?_
  subst eu e3
  refine thn (hst.run pins s3 σ H3 (fun o H4 => o = some (-1) ∧ H4 = H3) I3 ⟨1, rfl, -1, rfl, rfl, rfl⟩) fun vs s4 ⟨o, H4, I4, ps, eo, e4⟩ => ?_
  subst eo e4
  cases pl
  cases pu
  have I5 : Inv X pins σ H4 { s4 with heap := s4.heap.push { cls := .type "slice", data := .fields #[.none, .none, vs] } } := I4.kept (t' := s4.toks) (fun b ob q => Heap.get?_push_of_some _ q)
  obtain ⟨its, r, ht, hz⟩ := I5.tuple hx
  have hlen := r.length
  show wpAny (model X.prog X.w) X.A (subscriptTail e (.Slice none none (some (.UnaryOp .USub (.Constant (.int 1) k p1) p2)) p3) (Value.ref a) (.ref s4.heap.objs.size)) (EP X pins σ Q) X.xe _
  refine tail_any (ops := [.ref a, .ref s4.heap.objs.size]) ht.typeIs PyProof.Rows.slot_tuple_getitem.lookup ?_ (by with_unfolding_all rfl)
  refine get_back ht (Heap.IsSliceOf.new _ _ _ vs) ps ?_ (by rw [List.size_toArray]; omega)
  refine ⟨.ref _, _, I5.laid (t' := s4.toks) (o := .tup xs.reverse) (fun b ob q => Heap.get?_push_of_some _ q) (Nat.le_refl _) ?_, rfl, q _ (I5.hok.fresh (Nat.le_refl _))⟩
  exact ⟨by rw [List.length_reverse]; exact hz, _, r.reverse, IsTup.new _ _⟩
/-- a tuple or a list, turned round -/
def rev2D (d : D) (st : Sto) : OD := match d with
  | .tup ds => some (.tup ds.reverse, st)
  | d => revD d st
theorem q_back {e : Expr} {Fa : Ev → Sto → Res D} {k : Nat} {p1 p2 p3 pos : Pos} (ha : PE X e (tE X.K P W Fa)) :
    PE X (.Subscript e (.Slice none none (some (.UnaryOp .USub (.Constant (.int 1) k p1) p2)) p3) pos) (tE X.K P W fun env st => (Fa env st).bind fun d s1 => ofO (rev2D d s1)) := by
  refine ⟨fun pins s σ H Q I h => ?_⟩
  obtain ⟨M, env, st, sl, at_, p⟩ := h
  dsimp only at p
  cases e1 : Fa env st with
  | err => rw [e1] at p; exact p.elim
  | exc c d s1 =>
    rw [e1] at p
    refine (q_rev ha).run pins s σ H Q I ⟨M, env, st, sl, at_, ?_⟩
    dsimp only
    rw [e1]
    exact p
  | ok d s1 =>
    cases d with
    | tup ds =>
      rw [e1] at p
      have p : Post X.K P M H (DV X.K) (fun c d H' => W c d σ H') (ofO (some (.tup ds.reverse, s1))) Q := p
      refine (pe_backT ha).run pins s σ H Q I ⟨M, env, st, sl, at_, ?_⟩
      rw [e1]
      intro b M' H' s' a r
      obtain ⟨t, vs, rfl, h1, h2⟩ := dv_tup.mp r
      exact ⟨t, vs, rfl, h1, fun q hq => (Post.toO (Post.step s' p)).tup rfl a h2.reverse hq⟩
    | _ =>
      refine (q_rev ha).run pins s σ H Q I ⟨M, env, st, sl, at_, ?_⟩
      dsimp only
      rw [e1] at p ⊢
      exact p
end
end Q
end

section
set_option Elab.async false
set_option linter.all false
set_option maxRecDepth 100000
set_option maxHeartbeats 4000000
set_option autoImplicit false
/-! More operators: tuples times 0 and 1, in, is None, bits; starred displays; bit_length. -/
namespace Q
open PySem PySem.Spec PyProof.Rows L2
open PySem.SeqAt
open PySem.AutoSeq1 (wpAny_loadPart')
open PySem.MeetsSeq PySem.MeetsSeq2 PySem.MeetsSeq3
theorem mul_one_tup (l : Addr) (items : Array Value) (n : Nat) (dd : Option Addr) (sl : Array (Option Value)) (u : Tok) :
    Meets (Builtin.«tuple.__mul__» ⟨[.ref l, .int 1 u], []⟩) (fun _ R s => s.heap.get? l = some { cls := .type "tuple", dict := dd, data := .seq items n, slots := sl } ∧ R (.ok (.ret (Value.ref l))) s) :=
  .of_wp fun prog w A R s h => by
    obtain ⟨hp, g, d, tk, os⟩ := s
    obtain ⟨hl, h⟩ := h
    have f1 := AutoSeq1.idx_int
    have c0 : (decide ((1 : Int) < -(2 ^ 63)) || decide ((1 : Int) ≥ 2 ^ 63)) = false := by decide
    have c1 : (items.isEmpty || (1 : Int) == 1) = true := by simp
    wp_walk using wpAny_loadPart' hl
    repeat (first
      | (refine wpAny_ite_false (decide_eq_false (by rw [c0]; exact Bool.false_ne_true)) ?_; wp_walk using wpAny_loadPart' hl)
      | (refine wpAny_ite_true (decide_eq_true (by rw [c1])) ?_; wp_walk using wpAny_loadPart' hl))
    exact ⟨_, rfl, h⟩
theorem mul_same_tup (l : Addr) (items : Array Value) (n : Nat) (dd : Option Addr) (sl : Array (Option Value)) (x : Int) (u : Tok) (c0 : (decide (x < -(2 ^ 63)) || decide (x ≥ 2 ^ 63)) = false) (c1 : (items.isEmpty || x == 1) = true) :
    Meets (Builtin.«tuple.__mul__» ⟨[.ref l, .int x u], []⟩) (fun _ R s => s.heap.get? l = some { cls := .type "tuple", dict := dd, data := .seq items n, slots := sl } ∧ R (.ok (.ret (Value.ref l))) s) :=
  .of_wp fun prog w A R s h => by
    obtain ⟨hp, g, d, tk, os⟩ := s
    obtain ⟨hl, h⟩ := h
    have f1 := AutoSeq1.idx_int
    wp_walk using wpAny_loadPart' hl
    repeat (first
      | (refine wpAny_ite_false (decide_eq_false (by rw [c0]; exact Bool.false_ne_true)) ?_; wp_walk using wpAny_loadPart' hl)
      | (refine wpAny_ite_true (decide_eq_true (by rw [c1])) ?_; wp_walk using wpAny_loadPart' hl))
    exact ⟨_, rfl, h⟩
theorem mul_none_tup (l : Addr) (items : Array Value) (n : Nat) (dd : Option Addr) (sl : Array (Option Value)) (x : Int) (u : Tok) (c0 : (decide (x < -(2 ^ 63)) || decide (x ≥ 2 ^ 63)) = false) (c1 : (items.isEmpty || x == 1) = false) (c2 : (decide (x ≤ 0) || items.isEmpty) = true) :
    Meets (Builtin.«tuple.__mul__» ⟨[.ref l, .int x u], []⟩) (fun _ R s => s.heap.get? l = some { cls := .type "tuple", dict := dd, data := .seq items n, slots := sl } ∧
      R (.ok (.ret (Value.ref s.heap.objs.size))) { s with heap := s.heap.push { cls := Value.type "tuple", data := Data.seq #[] }, toks := s.toks }) :=
  .of_wp fun prog w A R s h => by
    obtain ⟨hp, g, d, tk, os⟩ := s
    obtain ⟨hl, h⟩ := h
    have f1 := AutoSeq1.idx_int
    wp_walk using wpAny_loadPart' hl
    repeat (first
      | (refine wpAny_ite_false (decide_eq_false (by rw [c0]; exact Bool.false_ne_true)) ?_; wp_walk using wpAny_loadPart' hl)
      | (refine wpAny_ite_false (decide_eq_false (by rw [c1]; exact Bool.false_ne_true)) ?_; wp_walk using wpAny_loadPart' hl)
      | (refine wpAny_ite_true (decide_eq_true (by rw [c2])) ?_; wp_walk using wpAny_loadPart' hl))
    exact ⟨_, rfl, h⟩
def rRep01 (K : PySem.W.Frag) : R2 := fun x y H Q => ∃ l k xs, x = .ref l ∧ y = .int k ∧ SqT K H l xs ∧ -1000 ≤ k ∧ k ≤ 1000 ∧ ((k = 1 ∧ Q (.ref l) H) ∨ (k ≤ 0 ∧ xs ≠ [] ∧ ∀ p, H p = none → Q (.ref p) (upd H p (.tup []))))
section
variable {X : Cx} {P : Par} {W : WX}
theorem op_rep01 : OpR X (binaryOp .Mult) (rRep01 X.K) := by
  intro pins s σ H x y v u Q I rx ry h
  obtain ⟨l, k, xs, rfl, rfl, hT, h1, h2, q⟩ := h
  cases rx
  obtain ⟨t, rfl⟩ := ry
  obtain ⟨its, r, ⟨⟨cls, dd, data, sl⟩, ho, hc, n, hd⟩, hs⟩ := I.tuple hT
  simp only at hc hd
  subst hc hd
  have c0 : (decide (k < -(2 ^ 63)) || decide (k ≥ 2 ^ 63)) = false := by
    rw [Bool.or_eq_false_iff]
    exact ⟨decide_eq_false (by omega), decide_eq_false (by omega)⟩
  refine wpAny_binaryOp_repeat_ref (T := "tuple") (U := "int") (by decide) ⟨_, ho, rfl⟩ (fun s' => typeIs_int s' k t) noFill_tuple_mul F.fills_int_mul F.slot_int_rmul repeat_tuple F.slot_int_index.lookup (call_meets F.slot_int_rmul (typeIs_int s k t) F.entry_int_rmul (F.args_int_rmul_2 _ _) (int_rmul_tuple k t l its.toArray n dd sl) ⟨ho, rfl, ⟨_, ho, rfl⟩, ?_⟩)
  rcases q with ⟨hk, q⟩ | ⟨hk, hne, q⟩
  · exact call_meets F.slot_tuple_mul ⟨_, ho, rfl⟩ F.entry_tuple_mul (F.args_tuple_mul_2 _ _) (mul_same_tup l its.toArray n dd sl k t c0 (by rw [hk]; simp)) ⟨ho, ⟨.ref l, H, I, rfl, q⟩⟩
  · have hi : its.toArray.isEmpty = false := by
      cases its with
      | nil => exact absurd (List.eq_nil_of_length_eq_zero r.length) hne
      | cons a b => rfl
    have c1 : (its.toArray.isEmpty || k == 1) = false := by
      rw [hi, Bool.false_or]
      exact beq_eq_false_iff_ne.mpr (by omega)
    have c2 : (decide (k ≤ 0) || its.toArray.isEmpty) = true := by rw [decide_eq_true hk]; rfl
    refine call_meets F.slot_tuple_mul ⟨_, ho, rfl⟩ F.entry_tuple_mul (F.args_tuple_mul_2 _ _) (mul_none_tup l its.toArray n dd sl k t c0 c1 c2) ⟨ho, ?_⟩
    refine ⟨.ref s.heap.objs.size, _, I.laid (t' := s.toks) (o := .tup []) (fun b ob q => Heap.get?_push_of_some _ q) (Nat.le_refl _) ?_, rfl, q _ (I.hok.fresh (Nat.le_refl _))⟩
    exact ⟨Nat.zero_le _, [], .nil, IsTup.new _ _⟩
def rep01 : D → D → Sto → OD
  | .tup xs, .int k, st => if k = 1 then some (.tup xs, st) else if -1000 ≤ k ∧ k ≤ 0 ∧ xs ≠ [] then some (.tup [], st) else none
  | _, _, _ => none
theorem rep01_ok : OpR X (binaryOp .Mult) (rD2 X.K P rep01) := by
  intro pins s σ H x y v u Q I rx ry q
  obtain ⟨M, st, dx, dy, a, r1, r2, p⟩ := q
  unfold rep01 at p
  split at p
  · rename_i xs k
    rw [dv_int] at r2
    obtain ⟨t1, vs, rfl, h1, g1⟩ := dv_tup.mp r1
    split at p
    · rename_i hk
      exact op_rep01 pins s σ H _ y v u Q I rx ry ⟨t1, k, vs, rfl, r2, h1, by omega, by omega, .inl ⟨hk, p.pure a r1⟩⟩
    · split at p
      · rename_i hk
        obtain ⟨k1, k2, k3⟩ := hk
        refine op_rep01 pins s σ H _ y v u Q I rx ry ⟨t1, k, vs, rfl, r2, h1, k1, by omega, .inr ⟨k2, fun e => k3 ?_, fun p' hp => p.tup rfl a dvs_nil hp⟩⟩
        subst e
        exact List.eq_nil_of_length_eq_zero g1.length
      · exact p.not.elim
  · exact p.not.elim
def mul2D : D → D → Sto → OD := alt2 mulD rep01
theorem mul2_ok : OpR X (binaryOp .Mult) (rD2 X.K P mul2D) := alt2_ok mulD_ok rep01_ok
/-! ### bits -/
theorem and_ok : OpR X (binaryOp .BitAnd) (rD2 X.K P (int2 fun i j => some (Builtin.bitAnd i j))) := int20_ok op_and
theorem or_ok : OpR X (binaryOp .BitOr) (rD2 X.K P (int2 fun i j => some (Builtin.bitOr i j))) := int20_ok op_or
theorem xor_ok : OpR X (binaryOp .BitXor) (rD2 X.K P (int2 fun i j => some (Builtin.bitXor i j))) := int20_ok op_xor
/-! ### is None -/
def isNonD (d : D) : Bool := match d with
  | .non => true
  | _ => false
theorem isNon_of {K : PySem.W.Frag} {M : List Addr} {H : Hp} {d : D} {v : V} (h : DV K M H d v) : decide (v = .non) = isNonD d := by
  cases d with
  | non => rw [dv_non.mp h]; rfl
  | bl b => rw [dv_bl.mp h]; rfl
  | int b => rw [dv_int.mp h]; rfl
  | str b => rw [dv_str.mp h]; rfl
  | tup ds => obtain ⟨p, vs, rfl, _⟩ := dv_tup.mp h; rfl
  | fz ds => obtain ⟨p, vs, rfl, _⟩ := dv_fz.mp h; rfl
  | loc n => obtain ⟨p, rfl, _⟩ := dv_loc.mp h; rfl
  | exo k => exact (dv_exo h).elim
def isD : D → D → Sto → OD
  | x, .non, st => some (.bl (isNonD x), st)
  | _, _, _ => none
theorem is_ok : OpR X (compareOp .Is) (rD2 X.K P isD) := by
  intro pins s σ H x y v u Q I rx ry q
  obtain ⟨M, st, dx, dy, a, r1, r2, p⟩ := q
  unfold isD at p
  split at p
  · refine op_isN pins s σ H x y v u Q I rx ry ⟨dv_non.mp r2, ?_⟩
    rw [isNon_of r1]
    exact p.bl a
  · exact p.not.elim
theorem isNot_ok : OpR X (compareOp .IsNot) (rD2 X.K P (negB isD)) := by
  intro pins s σ H x y v u Q I rx ry q
  obtain ⟨M, st, dx, dy, a, r1, r2, p⟩ := q
  unfold negB isD at p
  split at p
  · rename_i b st' e
    split at e
    · cases e
      refine op_notN pins s σ H x y v u Q I rx ry ⟨dv_non.mp r2, ?_⟩
      rw [isNon_of r1]
      exact p.bl a
    · cases e
  · exact p.not.elim
/-! ### in -/
def seqP (st : Sto) (d : D) : Option (List PyData) := match d with
  | .tup ds => mapO (toP st 29) ds
  | .fz ds => mapO (toP st 29) ds
  | .loc k => match st[k]? with
    | some (.lst ds) => mapO (toP st 29) ds
    | _ => none
  | _ => none
def inD : D → D → Sto → OD := fun x y st => match toP st 30 x, seqP st y with
  | some p, some qs => if SeqAt.shaped p = true ∧ PyData.canLayAll0 qs = true ∧ p.depth ≤ 60 then some (.bl (qs.any fun z => PyData.eqv z p), st) else none
  | _, _ => none
theorem room_in (hu : X.A.units + 64 < cLine) {p : PyData} {qs : List PyData} (h : p.depth ≤ 60) : X.A.units + 1 + min (PyData.depthAll qs) p.depth < cLine := by omega
theorem seq_toP {st : Sto} {d : D} {qs : List PyData} (h : seqP st d = some qs) : toP st 30 d = some (.tuple qs) ∨ toP st 30 d = some (.list qs) := by
  cases d with
  | tup ds => left; show (mapO (toP st 29) ds).map PyData.tuple = _; rw [show mapO (toP st 29) ds = some qs from h]; rfl
  | fz ds => right; show (mapO (toP st 29) ds).map PyData.list = _; rw [show mapO (toP st 29) ds = some qs from h]; rfl
  | loc k =>
    right
    simp only [seqP] at h
    simp only [toP]
    split at h
    · rename_i ds e
      rw [e]
      show (mapO (toP st 29) ds).map PyData.list = _
      rw [h]; rfl
    · cases h
  | _ => cases h
theorem in_ok (hu : X.A.units + 64 < cLine) : OpR X (compareOp .In) (rD2 X.K P inD) := by
  intro pins s σ H x y v u Q I rx ry q
  obtain ⟨M, st, dx, dy, a, r1, r2, p⟩ := q
  unfold inD at p
  split at p
  · rename_i p1 qs e1 e2
    split at p
    · rename_i hs
      obtain ⟨as, q1, _⟩ := rd_of I a 30 dx p1 x v e1 r1 rx
      have fin : EP X pins σ Q (.bool (qs.any fun z => PyData.eqv z p1)) s := ⟨.bl _, H, I, rfl, p.bl a⟩
      rcases seq_toP e2 with e3 | e3
      · obtain ⟨bs, q2, _⟩ := rd_of I a 30 dy _ y u e3 r2 ry
        exact SeqAt.in_tuple_reads q2 q1 hs.2.1 (SeqAt.canLay_of_shaped hs.1) (room_in hu hs.2.2) fin
      · obtain ⟨bs, q2, _⟩ := rd_of I a 30 dy _ y u e3 r2 ry
        exact SeqAt.in_list_reads q2 q1 hs.2.1 (SeqAt.canLay_of_shaped hs.1) (room_in hu hs.2.2) fin
    · exact p.not.elim
  · exact p.not.elim
theorem notIn_ok (hu : X.A.units + 64 < cLine) : OpR X (compareOp .NotIn) (rD2 X.K P (negB inD)) := by
  intro pins s σ H x y v u Q I rx ry q
  obtain ⟨M, st, dx, dy, a, r1, r2, p⟩ := q
  unfold negB inD at p
  split at p
  · rename_i b st' e
    split at e
    · rename_i p1 qs e1 e2
      split at e
      · rename_i hs
        cases e
        obtain ⟨as, q1, _⟩ := rd_of I a 30 dx p1 x v e1 r1 rx
        have fin : EP X pins σ Q (.bool (!qs.any fun z => PyData.eqv z p1)) s := ⟨.bl _, H, I, rfl, p.bl a⟩
        rcases seq_toP e2 with e3 | e3
        · obtain ⟨bs, q2, _⟩ := rd_of I a 30 dy _ y u e3 r2 ry
          exact SeqAt.notIn_tuple_reads q2 q1 hs.2.1 (SeqAt.canLay_of_shaped hs.1) (room_in hu hs.2.2) fin
        · obtain ⟨bs, q2, _⟩ := rd_of I a 30 dy _ y u e3 r2 ry
          exact SeqAt.notIn_list_reads q2 q1 hs.2.1 (SeqAt.canLay_of_shaped hs.1) (room_in hu hs.2.2) fin
      · cases e
    · cases e
  · exact p.not.elim
/-! ### (*t, ..) -/
def starD (x : D) (ds : List D) (st : Sto) : OD := match x with
  | .tup xs => mkTup (xs ++ ds) st
  | _ => none
def isTupD : D → Bool
  | .tup _ => true
  | _ => false
abbrev fStar (Fe : Ev → Sto → Res D) (G : Ev → Sto → Res (List D)) : Ev → Sto → Res D := fun env st => (Fe env st).bind fun x s1 => if isTupD x = true then (G env s1).bind fun ds s2 => ofO (starD x ds s2) else .err
theorem q_tupS {e : Expr} {es : List Expr} {Fe : Ev → Sto → Res D} {G : Ev → Sto → Res (List D)} {p pos : Pos} {kk : Nat} (he : PE X e (tE X.K P W Fe)) (ha : PA X es (tL X.K P W G)) :
    PE X (.Tuple (.Starred e p :: es) kk pos) (tE X.K P W (fStar Fe G)) := by
  refine ⟨fun pins s σ H Q I h => (pe_tup (StX.pa_star he ha (by rfl))).run pins s σ H Q I ?_⟩
  obtain ⟨M, env, st, sl, at_, q⟩ := h
  refine tG.go sl at_ q fun x H1 d M1 st1 s1 a1 sl1 r1 p1 => ?_
  cases d with
  | tup xs =>
    rw [if_pos (show isTupD (D.tup xs) = true from rfl)] at p1
    obtain ⟨t, vs, rfl, h1, h2⟩ := dv_tup.mp r1
    refine ⟨t, vs, rfl, .inl h1, tG.go sl1 a1 p1 fun ys H2 ds M2 st2 s2 a2 sl2 r2 p2 => ?_⟩
    have p2 := p2.toO
    have p2 : PostO X.K P M2 H2 (mkTup (xs ++ ds) st2) Q := p2
    unfold mkTup at p2
    split at p2
    · rename_i hl
      have r3 := (h2.mono a1.mok s2).append r2
      exact ⟨by rw [← r3.length]; exact le_line hl, fun q hq => p2.tup rfl a2 r3 hq⟩
    · exact p2.not.elim
  | exo k => exact (dv_exo r1).elim
  | _ => exact p1.elim
/-! ### n.bit_length() -/
def bitlD (d : D) (st : Sto) : OD := match d with
  | .int i => some (.int (Builtin.Int.intBits i : Nat), st)
  | _ => none
theorem q_bitl {e : Expr} {Fe : Ev → Sto → Res D} {apos pos : Pos} (he : PE X e (tE X.K P W Fe)) (h0 : attributeBase e "bit_length" X.env (eval e X.env) = eval e X.env) (hl : (apos.endLine == pos.line) = true) :
    PE X (.Call (.Attribute e "bit_length" apos) [] [] pos) (tE X.K P W fun env st => (Fe env st).bind fun d s1 => ofO (bitlD d s1)) := by
  refine ⟨fun pins s σ H Q I h => (pe_bits he h0 hl).run pins s σ H Q I ?_⟩
  obtain ⟨M, env, st, sl, at_, q⟩ := h
  refine tG.go sl at_ q fun x H1 d M1 st1 s1 a1 sl1 r1 p1 => ?_
  cases d with
  | int i => exact ⟨i, dv_int.mp r1, p1.toO.int a1⟩
  | _ => exact p1.elim
end
end Q
end

section
set_option Elab.async false
set_option linter.all false
set_option maxRecDepth 100000
set_option maxHeartbeats 2000000
set_option autoImplicit false
/-! enumerate and zip over tuples and lists. -/
namespace Q
open PySem PySem.Spec PyProof.Rows L2
theorem meets_enum1 {v : Value} {o : Obj} {Hq : Heap → Prop} (B : Begins v o Hq) :
    Meets (Builtin.«enumerate.__new__» ⟨[.type "enumerate", v], []⟩) (fun _ R s => Hq s.heap ∧
      R (.ok (.ret (.ref (s.heap.push o).objs.size))) { s with heap := (s.heap.push o).push { cls := .type "enumerate", data := .fields #[.none, .bool false, .ref s.heap.objs.size, rawInt 0, .none, .none] } }) :=
  .of_wp fun prog w A R s h => by
    obtain ⟨hp, g, d, tk, os⟩ := s
    obtain ⟨h1, h⟩ := h
    have hsub := sub_enumerate
    have q1 : ∀ {A2 : Around} {E2 : Value → Shared → Prop} {Q2 : Value → Shared → Prop}, Q2 (.ref hp.objs.size) ⟨hp.push o, g, d, tk, os⟩ → wpAny (model prog w) A2 (pyIter v) Q2 E2 ⟨hp, g, d, tk, os⟩ := fun q => B.iter prog w _ _ ⟨hp, g, d, tk, os⟩ _ h1 q
    wp_walk using q1
    refine wpAny_stack_any fun st => wpAny_pure ?_
    split
    · rename_i c _ _ _ _ _
      cases (c == Value.type "enumerate") <;> (wp_walk using q1; exact ⟨_, rfl, h⟩)
    · wp_walk using q1
      exact ⟨_, rfl, h⟩
section
variable {prog : Program} {w : World} {A : Around} {E : Value → Shared → Prop} {s : Shared}
theorem enum1_begins {v : Value} {o : Obj} {Hq : Heap → Prop} {Q : Value → Shared → Prop} (B : Begins v o Hq) (h1 : Hq s.heap)
    (h : ∀ h', IsEnum h' (s.heap.objs.size + 1) s.heap.objs.size 0 .none → h'.get? s.heap.objs.size = some o → (∀ b o2, s.heap.get? b = some o2 → h'.get? b = some o2) → Q (.ref (s.heap.objs.size + 1)) { s with heap := h' }) :
    wpAny (model prog w) A (call (.type "enumerate") [v]) Q E s := by
  refine callType_new F.called_enumerate (by decide) (F.typeCall_enumerate_1 _) (F.newCall_enumerate_1 _) (fun obj => F.args_object_init_2 obj _) F.entry_enumerate_new (meets_enum1 B) ⟨h1, ?_⟩
  have hz : (s.heap.push o).objs.size = s.heap.objs.size + 1 := Heap.size_push ..
  show _ ∧ _
  rw [hz]
  have he := Heap.get?_push_size (s.heap.push o) (o := { cls := .type "enumerate", data := .fields #[.none, .bool false, .ref s.heap.objs.size, rawInt 0, .none, .none] }) rfl
  rw [hz] at he
  exact ⟨⟨_, he, rfl⟩, h _ he (Heap.get?_push_of_some _ (Heap.get?_push_size _ B.free)) fun b o2 x => Heap.get?_push_of_some _ (Heap.get?_push_of_some _ x)⟩
end
/-- a tuple at a, each item in a new pair -/
def IteT (K : PySem.W.Frag) (a : Addr) : It :=
  ⟨fun i H => ∃ (xs : List V) (x : V), SqT K H a xs ∧ xs[i]? = some x, fun i H v H' => ∃ T x, v = .ref T ∧ H T = none ∧ H' = upd H T (.tup [.int (i : Nat), x]) ∧ ∀ xs, SqT K H a xs → xs[i]? = some x, fun i H => ∃ xs : List V, SqT K H a xs ∧ xs.length ≤ i⟩
theorem turn_enumT {P : Program} {w : World} {K : PySem.W.Frag} {elts : List Expr} {kk : Nat} {tpos : Pos} (a e it : Addr) (hai : a ≠ it) (hae : e ≠ a) :
    Turn P w K (.Tuple elts kk tpos) (IteT K a) [e, it] e (fun i h => (∃ old, IsEnum h e it ((i : Nat) : Int) old) ∧ h.IsTupleIter it a i ∧ e ≠ it) where
  mem := by simp
  obj := fun i h st b hb => by
    obtain ⟨⟨old, he⟩, ⟨ob, hob, _, hda⟩, _⟩ := st
    have e2 : b = e ∨ b = it := by simpa using hb
    rcases e2 with rfl | rfl
    · exact ⟨_, he, fun v q => by cases q⟩
    · exact ⟨ob, hob, fun v q => by rw [hda] at q; cases q⟩
  keep := fun i h h' st k => by
    obtain ⟨⟨old, he⟩, hi, hne⟩ := st
    exact ⟨⟨old, k e (by simp) _ he⟩, hi.at (fun o q => k it (by simp) o q), hne⟩
  item := by
    intro X hP hw hK hc i pins s σ H E I hf st hg
    subst hP hw hK
    obtain ⟨⟨old, he⟩, hit, hne⟩ := st
    obtain ⟨xs, x, hq, hx⟩ := hg
    obtain ⟨its, rv, p, hz⟩ := I.tuple hq
    obtain ⟨u, hu, ru⟩ := rv.get hx
    have hel : e < s.heap.objs.size := Heap.lt_size he
    have hil : it < s.heap.objs.size := by
      obtain ⟨_, q, _⟩ := hit
      exact Heap.lt_size q
    have hh := I.ok.hd hc
    have D := Draws.tuple (prog := X.prog) (w := X.w) (A := X.A.in1) (by first | exact hh | simpa using hh) it a hai its.toArray
    have hlt : i < its.toArray.size := by
      rw [List.size_toArray]
      exact (List.getElem?_eq_some_iff.mp hu).1
    refine wpAny_pyNext_enum_itemD D he ⟨hit, p⟩ hlt hne (by simp [hne, hae]) fun y h' tk hP ho hst hT hsz hk => ?_
    have hy : y = u := by
      have : its.toArray[i]? = some u := by simpa using hu
      rw [this] at hP
      exact (Option.some.inj hP).symm
    subst hy
    refine ⟨_, rfl, wpAny_letOwnedTupleGo_enum (s := { s with heap := h', toks := tk + 1 }) ho fun h2 he2 sb => ?_⟩
    have hT2 : h2.get? s.heap.objs.size = some { cls := .type "tuple", data := .seq #[.int i tk, y] } := (sb.2 _ (Nat.ne_of_gt hel)).trans hT
    have new : ObjOk X.prog X.w (upd H s.heap.objs.size (.tup [.int (i : Nat), x])) h2 s.heap.objs.size (.tup [.int (i : Nat), x]) := ⟨by show 2 ≤ sizeLine; decide, [.int i tk, y], .cons ⟨_, rfl⟩ (.cons ru .nil), ⟨_, hT2, rfl, _, rfl⟩⟩
    have I1 : Inv X pins σ (upd H s.heap.objs.size (.tup [.int (i : Nat), x])) { s with heap := h2, toks := tk + 1 } :=
      I.turnedNew (t' := tk + 1) (ch := [e, it]) (fun b ob hb q => (sb.2 b (fun z => hb (by rw [z]; simp))).trans (hk b ob (fun z => hb (by rw [z]; simp)) (fun z => hb (by rw [z]; simp)) q)) hf (Nat.le_refl _) new
    refine ⟨.ref s.heap.objs.size, _, I1, rfl, ⟨_, x, rfl, I.hok.fresh (Nat.le_refl _), rfl, fun ys hy => by rw [I.tuple_inj hy hq]; exact hx⟩, ⟨⟨y, ?_⟩, hst.1.at fun o q => (sb.2 it (Ne.symm hne)).trans q, hne⟩, fun b hb => ?_⟩
    · have e1 : ((i + 1 : Nat) : Int) = (i : Int) + 1 := by omega
      rw [e1]
      exact he2
    · have hlt2 : b < s.heap.objs.size := by
        have e2 : b = e ∨ b = it := by simpa using hb
        rcases e2 with rfl | rfl
        · exact hel
        · exact hil
      rw [upd_ne (Nat.ne_of_lt hlt2)]
      exact (hf b hb).1
  done := by
    intro X hP hw hK hc i pins s σ H E I hf st hg
    subst hP hw hK
    obtain ⟨⟨old, he⟩, hit, hne⟩ := st
    obtain ⟨xs, hq, hx⟩ := hg
    obtain ⟨its, rv, p, hz⟩ := I.tuple hq
    obtain ⟨f0, f1, f2, f3, f4, f5⟩ := hf it (by simp)
    have hl := rv.length
    have hh := I.ok.hd hc
    have hn : its.toArray[i]? = none := by
      rw [Array.getElem?_eq_none_iff, List.size_toArray]
      omega
    have D : Draws X.prog X.w X.A.in1 it [it, a] 0 (fun _ _ => False) (fun _ h => h.IsTupleIter it a i ∧ h.IsTuple a its.toArray) :=
      { live := fun _ _ st => (by
          obtain ⟨⟨o, ho, _⟩, _⟩ := st
          exact ⟨o, ho⟩)
        frame := fun _ _ _ st hk => ⟨st.1.at (fun o e => hk it (by simp) o e), st.2.at (fun o e => hk a (by simp) o e)⟩
        item := fun j _ _ _ hj => absurd hj (Nat.not_lt_zero j)
        done := fun s2 Q2 E2 st hE => wpAny_nextOf_tuple_end (by first | exact hh | simpa using hh) st.1 st.2 hn hE }
    exact wpAny_pyNext_enum_endD D he ⟨hit, p⟩ fun h' eb => ⟨rfl, I.turned (t' := s.toks) (fun b o hb q => eb b o hb q) f0 f1 f3 f4 f5⟩
  self := fun A i s Q E st h => by
    obtain ⟨⟨_, he⟩, _⟩ := st
    exact wpAny_pyIter_enum he h
def iEnumA (K : PySem.W.Frag) (ta : TA) : TI := fun σ H R => ta σ H fun vs H1 => ∃ a xs, vs = [.ref a] ∧ ((SqL K H1 a xs ∧ R (Ite K a) H1) ∨ (SqT K H1 a xs ∧ R (IteT K a) H1))
theorem pi_enumA {X : Cx} {e : Expr} {ta : TA} {p pos tpos : Pos} {elts : List Expr} {kk : Nat} (hg : Gl X "enumerate") (hm : X.mg "enumerate" = none) (ha : PA X [e] ta) (hs : starEach [e] X.env = [(false, eval e X.env)]) :
    PI X (.Tuple elts kk tpos) (.Call (.Name "enumerate" p) [e] [] pos) (iEnumA X.K ta) := by
  refine ⟨fun pins s σ H R I h => Call_ (ld_blt I hg hm boot_enumerate (PyProof.Rows.callWith_type1 (thn (ha.run pos pins s σ H _ I h) fun us s1 ⟨vs, H1, I1, r1, q1⟩ => ?_) hs rfl))⟩
  obtain ⟨a, xs, rfl, q1⟩ := q1
  cases r1 with
  | cons r rr =>
    cases rr
    cases r
    have fresh2 : ∀ b, b ∈ [s1.heap.objs.size + 1, s1.heap.objs.size] → FpOk X pins H1 b := fun b hb => by
      have e2 : b = s1.heap.objs.size + 1 ∨ b = s1.heap.objs.size := by simpa using hb
      have hle : s1.heap.objs.size ≤ b := by
        rcases e2 with rfl | rfl
        · exact Nat.le_add_right _ _
        · exact Nat.le_refl _
      exact I1.fpOk hle (I1.hok.fresh hle)
    rcases q1 with ⟨hq, q⟩ | ⟨hq, q⟩
    · obtain ⟨its, rv, p1, hz⟩ := I1.list hq
      refine enum1_begins (begins_list a its.toArray) p1.isList fun h' he hit hk => wpAny_pyIter_enum he ?_
      have I2 : Inv X pins σ H1 { s1 with heap := h' } := I1.kept (t' := s1.toks) hk
      exact ⟨s1.heap.objs.size + 1, [s1.heap.objs.size + 1, s1.heap.objs.size], _, _, H1, rfl, I2, turn_enum a (s1.heap.objs.size + 1) s1.heap.objs.size, ⟨⟨.none, he⟩, ⟨_, hit, rfl, rfl⟩, Nat.succ_ne_self _⟩, fresh2, q⟩
    · obtain ⟨its, rv, p1, hz⟩ := I1.tuple hq
      have ha : a < s1.heap.objs.size := by
        obtain ⟨o, ho, _⟩ := id p1
        exact Heap.lt_size ho
      refine enum1_begins (begins_tuple a its.toArray) p1 fun h' he hit hk => wpAny_pyIter_enum he ?_
      have I2 : Inv X pins σ H1 { s1 with heap := h' } := I1.kept (t' := s1.toks) hk
      exact ⟨s1.heap.objs.size + 1, [s1.heap.objs.size + 1, s1.heap.objs.size], _, _, H1, rfl, I2, turn_enumT a (s1.heap.objs.size + 1) s1.heap.objs.size (Nat.ne_of_lt ha) (Nat.ne_of_gt (Nat.lt_succ_of_lt ha)), ⟨⟨.none, he⟩, ⟨_, hit, rfl, rfl⟩, Nat.succ_ne_self _⟩, fresh2, q⟩
section
variable {K : PySem.W.Frag} {P : Par} {M M0 : List Addr} {H H0 : Hp} {st : Sto}
/-- what is walked, each with its place -/
def itEn (it : ItD) : ItD := ⟨it.n, fun i st => (it.item i st).map fun d => .tup [.int (i : Nat), d], it.fin⟩
theorem en_new {i : Nat} {T : Addr} {d : D} {x : V} (a : At K P M H st) (hT : H T = none) (r : DV K M H d x) : Stp M H M (upd H T (.tup [.int (i : Nat), x])) ∧ At K P M (upd H T (.tup [.int (i : Nat), x])) st ∧ DV K M (upd H T (.tup [.int (i : Nat), x])) (.tup [.int (i : Nat), d]) (.ref T) := by
  have s := stp_new (M := M) (o := .tup [.int (i : Nat), x]) hT
  exact ⟨s, a.new hT, dv_tup.mpr ⟨T, _, rfl, SqT.of upd_same, dvs_cons (dv_int.mpr rfl) (dvs_cons (r.mono a.mok s) dvs_nil)⟩⟩
theorem it_enT {a : Addr} {vs : List V} {ds : List D} (m : MOk M0 H0) (q : SqT K H0 a vs) (r : DVs K M0 H0 ds vs) : ItOk K P M0 H0 (itEn (itTup ds)) (IteT K a) := fun i M H st s at_ => by
  have q1 := sqT_mono m s q
  have r1 := r.mono m s
  refine ⟨fun d hi e => ?_, fun hle _ => ⟨vs, q1, by rw [← r1.length]; exact hle⟩⟩
  have e' : (ds[i]?).map (fun d => D.tup [.int (i : Nat), d]) = some d := e
  obtain ⟨d0, e0, rfl⟩ := Option.map_eq_some_iff.mp e'
  obtain ⟨v, e1, r2⟩ := r1.get e0
  refine ⟨⟨vs, v, q1, e1⟩, fun x H' y => ?_⟩
  obtain ⟨T, x0, rfl, hT, rfl, h⟩ := y
  have h2 := h vs q1
  rw [e1] at h2
  cases h2
  exact ⟨M, en_new at_ hT r2⟩
theorem it_enF {a : Addr} {vs : List V} {ds : List D} (m : MOk M0 H0) (q : SqF K H0 a vs) (r : DVs K M0 H0 ds vs) : ItOk K P M0 H0 (itEn (itTup ds)) (Ite K a) := fun i M H st s at_ => by
  have q1 := sqF_mono m s q
  have r1 := r.mono m s
  refine ⟨fun d hi e => ?_, fun hle _ => ⟨vs, q1.sq, by rw [← r1.length]; exact hle⟩⟩
  have e' : (ds[i]?).map (fun d => D.tup [.int (i : Nat), d]) = some d := e
  obtain ⟨d0, e0, rfl⟩ := Option.map_eq_some_iff.mp e'
  obtain ⟨v, e1, r2⟩ := r1.get e0
  refine ⟨⟨vs, v, q1.sq, e1⟩, fun x H' y => ?_⟩
  obtain ⟨T, x0, rfl, hT, rfl, h⟩ := y
  have h2 := h vs q1.sq
  rw [e1] at h2
  cases h2
  exact ⟨M, en_new at_ hT r2⟩
theorem it_enL {a : Addr} {n k : Nat} (q : M0[n]? = some a) : ItOk K P M0 H0 (itEn (itLoc n k)) (Ite K a) := fun i M H st s at_ => by
  have q1 := s.get q
  refine ⟨fun d hi e => ?_, fun hle hf => ?_⟩
  · have e' : ((lenAt n st).bind (fun ds => ds[i]?)).map (fun d => D.tup [.int (i : Nat), d]) = some d := e
    obtain ⟨d0, e0, rfl⟩ := Option.map_eq_some_iff.mp e'
    cases hl : lenAt n st with
    | none => rw [hl] at e0; cases e0
    | some ds =>
      rw [hl, Option.bind_some] at e0
      obtain ⟨p, vs, h1, h2, r1⟩ := at_.lst (lenAt_of hl)
      rw [q1] at h1
      cases h1
      obtain ⟨v, e1, r2⟩ := r1.get e0
      refine ⟨⟨vs, v, SqL.of h2, e1⟩, fun x H' y => ?_⟩
      obtain ⟨T, x0, rfl, hT, rfl, h⟩ := y
      have h3 := h vs (SqL.of h2)
      rw [e1] at h3
      cases h3
      exact ⟨M, en_new at_ hT r2⟩
  · have hf' : (match lenAt n st with | some ds => decide (ds.length ≤ k) | none => false) = true := hf
    cases hl : lenAt n st with
    | none => rw [hl] at hf'; cases hf'
    | some ds =>
      rw [hl] at hf'
      obtain ⟨p, vs, h1, h2, r1⟩ := at_.lst (lenAt_of hl)
      rw [q1] at h1
      cases h1
      exact ⟨vs, SqL.of h2, by rw [← r1.length]; exact Nat.le_trans (of_decide_eq_true hf') hle⟩
end
/-- what is walked when a value is, each with its place -/
def enD (ds : List D) (st : Sto) : Res ItD := match ds with
  | [.tup ds] => .ok (itEn (itTup ds)) st
  | [.fz ds] => .ok (itEn (itTup ds)) st
  | [.loc n] => match lenAt n st with
    | some ds => .ok (itEn (itLoc n ds.length)) st
    | none => .err
  | _ => .err
section
variable {X : Cx} {P : Par} {W : WX}
theorem q_enum {a : Expr} {elts : List Expr} {kk : Nat} {tpos p pos : Pos} {G : Ev → Sto → Res (List D)} (hg : Gl X "enumerate") (hm : X.mg "enumerate" = none) (ha : PA X [a] (tL X.K P W G)) (hs : starEach [a] X.env = [(false, eval a X.env)]) :
    PI X (.Tuple elts kk tpos) (.Call (.Name "enumerate" p) [a] [] pos) (tI X.K P W fun env st => (G env st).bind enD) := by
  refine pi_imp (pi_enumA hg hm ha hs) fun σ H R h => ?_
  obtain ⟨M, env, st, sl, at_, p⟩ := h
  refine tG.go sl at_ p fun xs H1 ds M1 st1 s1 a1 sl1 r1 p1 => ?_
  unfold enD at p1
  split at p1
  · rename_i ds
    obtain ⟨v, rfl, h1⟩ := one_of r1
    obtain ⟨q, vs, rfl, h2, h3⟩ := dv_tup.mp h1
    exact ⟨q, vs, rfl, .inr ⟨h2, p1 _ M1 H1 (Stp.refl _ _) a1 (it_enT a1.mok h2 h3)⟩⟩
  · rename_i ds
    obtain ⟨v, rfl, h1⟩ := one_of r1
    obtain ⟨q, vs, rfl, h2, h3⟩ := dv_fz.mp h1
    exact ⟨q, vs, rfl, .inl ⟨h2.sq, p1 _ M1 H1 (Stp.refl _ _) a1 (it_enF a1.mok h2 h3)⟩⟩
  · rename_i n
    obtain ⟨v, rfl, h1⟩ := one_of r1
    obtain ⟨q, rfl, h2⟩ := dv_loc.mp h1
    split at p1
    · rename_i ds hl
      obtain ⟨q', vs, h3, h4, r2⟩ := a1.lst (lenAt_of hl)
      rw [h2] at h3
      cases h3
      exact ⟨q, vs, rfl, .inl ⟨SqL.of h4, p1 _ M1 H1 (Stp.refl _ _) a1 (it_enL h2)⟩⟩
    · exact p1.elim
  · exact p1.elim
end
end Q
end

section
set_option Elab.async false
set_option linter.all false
set_option maxRecDepth 100000
set_option maxHeartbeats 1000000
set_option autoImplicit false
/-! max and min of two or three ints; sum of a list or a tuple of ints. -/
namespace Q
open PySem PySem.Spec PyProof.Rows L2
section
variable {X : Cx} {P : Par} {K : PySem.W.Frag} {M : List Addr} {H : Hp}
def maxD : List D → Sto → OD
  | [.int i, .int j], st => some (.int (if j > i then j else i), st)
  | [.int i, .int j, .int k], st => some (.int (if (if i < j then j else i) < k then k else if i < j then j else i), st)
  | _, _ => none
def minD : List D → Sto → OD
  | [.int i, .int j], st => some (.int (if j < i then j else i), st)
  | [.int i, .int j, .int k], st => some (.int (if k < (if j < i then j else i) then k else if j < i then j else i), st)
  | _, _ => none
theorem if_int {p : Prop} [Decidable p] {i j : Int} : (if decide p = true then V.int i else V.int j) = V.int (if p then i else j) := by
  by_cases h : p <;> simp [h]
theorem nuMax3_int {i j k : Int} : nuMax3 (.int i) (.int j) (.int k) = some (.int (if (if i < j then j else i) < k then k else if i < j then j else i)) := by
  simp only [nuMax3, nuMax2, nuLt, nuCB, Option.map_some, Option.bind_some, if_int]
theorem nuMin3_int {i j k : Int} : nuMin3 (.int i) (.int j) (.int k) = some (.int (if k < (if j < i then j else i) then k else if j < i then j else i)) := by
  simp only [nuMin3, nuMin2, nuLt, nuCB, Option.map_some, Option.bind_some, if_int]
theorem cr_or {f : Value} {r r1 r2 : List V → Hp → VK → Prop} (h1 : CallR X f r1) (h2 : CallR X f r2) (k : ∀ xs H Q, r xs H Q → r1 xs H Q ∨ r2 xs H Q) : CallR X f r := fun pins s σ H xs us Q I rx q => by
  rcases k _ _ _ q with q | q
  · exact h1 pins s σ H xs us Q I rx q
  · exact h2 pins s σ H xs us Q I rx q
theorem max_ok (hc : X.calm = true) : CallR X (.builtin "max") (rDL X.K P maxD) := by
  refine cr_or (call_max2 hc) (call_max3Nu hc) fun xs H Q h => ?_
  obtain ⟨M, st, ds, a, rd, p⟩ := h
  unfold maxD at p
  split at p
  · obtain ⟨v, w, rfl, h1, h2⟩ := two_of rd
    rw [dv_int.mp h1, dv_int.mp h2]
    exact .inl ⟨_, _, rfl, p.int a⟩
  · obtain ⟨u, v, w, rfl, h1, h2, h3⟩ := three_of rd
    rw [dv_int.mp h1, dv_int.mp h2, dv_int.mp h3]
    exact .inr ⟨_, _, _, _, rfl, nuMax3_int, p.int a⟩
  · exact p.not.elim
theorem min_ok (hc : X.calm = true) : CallR X (.builtin "min") (rDL X.K P minD) := by
  refine cr_or (call_min2 hc) (call_min3Nu hc) fun xs H Q h => ?_
  obtain ⟨M, st, ds, a, rd, p⟩ := h
  unfold minD at p
  split at p
  · obtain ⟨v, w, rfl, h1, h2⟩ := two_of rd
    rw [dv_int.mp h1, dv_int.mp h2]
    exact .inl ⟨_, _, rfl, p.int a⟩
  · obtain ⟨u, v, w, rfl, h1, h2, h3⟩ := three_of rd
    rw [dv_int.mp h1, dv_int.mp h2, dv_int.mp h3]
    exact .inr ⟨_, _, _, _, rfl, nuMin3_int, p.int a⟩
  · exact p.not.elim
/-! sum -/
def intsD : List D → Option (List Int)
  | [] => some []
  | .int i :: ds => (intsD ds).map (i :: ·)
  | _ :: _ => none
theorem intsD_map (l : List Int) : intsD (l.map D.int) = some l := by
  induction l with
  | nil => rfl
  | cons i l ih => simp only [List.map_cons, intsD, ih, Option.map_some]
theorem intsD_of {ds : List D} {ns : List Int} {vs : List V} (h : intsD ds = some ns) (r : DVs K M H ds vs) : vs = ns.map V.int := by
  induction ds generalizing ns vs with
  | nil =>
    cases h
    exact r.nil_inv
  | cons d ds ih =>
    cases d with
    | int i =>
      simp only [intsD, Option.map_eq_some_iff] at h
      obtain ⟨l, h, rfl⟩ := h
      obtain ⟨v, vr, rfl, h1, h2⟩ := r.cons_inv
      rw [dv_int.mp h1, ih h h2, List.map_cons]
    | _ => simp [intsD] at h
def sumD : List D → Sto → OD
  | [d], st => ((seqD d st).bind intsD).map fun ns => (.int ns.sum, st)
  | _, _ => none
/-- sum(xs) of a tuple of ints -/
def rSumT (K : PySem.W.Frag) : List V → Hp → VK → Prop := fun vs H Q => ∃ (a : Addr) (ns : List Int), vs = [V.ref a] ∧ SqT K H a (ns.map V.int) ∧ Q (.int ns.sum) H
theorem cr_sumT (hc : X.calm = true) : CallR X (.builtin "sum") (rSumT X.K) := by
  intro pins s σ H vs us Q I r h
  obtain ⟨a, ns, rfl, hs, q⟩ := h
  obtain ⟨its, rv, hl, _⟩ := I.tuple hs
  rw [Vals.ref1 r]
  have hi := rv.ints
  obtain ⟨xs, e⟩ := hi.allInts.items
  have hn : numsOf (intItems xs).toList = ns := by rw [← e]; exact hi.numsOf
  rw [nums_intItems] at hn
  rw [e] at hl
  obtain ⟨o, h1, h2, n, h3⟩ := hl
  have hp : preSum (numAt xs) xs.size = ns.sum := by rw [preSum_eq, List.take_of_length_le (by simp), hn]
  refine PySem.W.ktm_sumG (I.ok.hd hc) ⟨o, h1, h2, n, h3⟩ fun h' tk t' hk => ?_
  rw [hp]
  exact ⟨.int _, H, I.kept hk, ⟨t', rfl⟩, q⟩
theorem sum_ok (hc : X.calm = true) : CallR X (.builtin "sum") (rDL X.K P sumD) := by
  refine cr_or (cr_sum hc) (cr_sumT hc) fun xs H Q h => ?_
  obtain ⟨M, st, ds, a, rd, p⟩ := h
  unfold sumD at p
  split at p
  · rename_i d
    obtain ⟨v, rfl, h1⟩ := one_of rd
    cases e : seqD d st with
    | none => rw [e] at p; exact p.not.elim
    | some es =>
      rw [e] at p
      simp only [Option.bind_some] at p
      cases e2 : intsD es with
      | none => rw [e2] at p; exact p.not.elim
      | some ns =>
        rw [e2] at p
        obtain ⟨t, vs, rfl, h2, h3⟩ := seq_of a h1 e
        have := intsD_of e2 h3
        subst this
        rcases h2 with h2 | h2
        · exact .inl ⟨t, ns, rfl, h2, p.int a⟩
        · exact .inr ⟨t, ns, rfl, h2, p.int a⟩
  · exact p.not.elim
end
end Q
end

section
set_option Elab.async false
set_option linter.all false
set_option maxRecDepth 100000
set_option maxHeartbeats 1000000
set_option autoImplicit false
/-! isinstance(e, C) in the suite of an except clause. -/
namespace Q
open PySem PySem.Spec PyProof.Rows L2
/-- what the written part says of a class of exceptions, for isinstance -/
structure ExI (K : PySem.W.Frag) (C : Addr) : Prop where
  cl : (PySem.W.clsIn K C).isSome = true
  ga : PySem.W.findIn K (.ref C) "__getattribute__" = some (some (.builtin "BaseException.__getattribute__"))
  gg : PySem.W.findIn K (.ref C) "__getattr__" = some none
  su : PySem.W.subIn K (.ref C) (.type "BaseException") = some true
  ca : PySem.W.findIn K (.ref C) "__class__" = some (some (.builtin "object.__class__"))
  sg : PySem.W.specialIn K (.builtin "object.__class__") "__get__" = some (some (.builtin "getset_descriptor.__get__"))
  tk : PySem.W.takesIn K (.builtin "object.__class__") = some true
  mr : PySem.W.mroIn K C (.type "object") = some true
def rIsQ (K : PySem.W.Frag) (C dd a : Addr) : List V → Hp → VK → Prop := fun xs H Q => ∃ (c : Addr) (f : Str) (v : V) (b : Bool), xs = [.ref a, .ref c] ∧ H dd = some (.xd [(f, v)]) ∧ PySem.W.kitOne K (.ref C) (.ref c) = some b ∧ Q (.bl b) H
theorem call_isQ {X : Cx} {a dd C : Addr} {oe : Obj} {pn : List (Addr × Obj)} (G : ExI X.K C) (hz : Zc (.ref C) (some dd) oe) (hd : ∃ vs, oe.data = .fields vs) : CallR (X.suite a ((a, oe) :: pn)) (.builtin "isinstance") (rIsQ X.K C dd a) := by
  intro pins s σ H xs us Q I r h
  obtain ⟨c, f, v, b, rfl, ea, e, q⟩ := h
  cases r with
  | cons rx rr =>
    cases rr with
    | cons rt rr =>
      cases rr
      cases rx
      cases rt
      obtain ⟨ha, _⟩ := I.pin (a, oe) (List.mem_append_left _ List.mem_cons_self)
      obtain ⟨vs, hdd⟩ := hd
      have hx : ObjOk X.prog X.w H s.heap dd (.xd [(f, v)]) := I.hok dd _ ea
      obtain ⟨mA, hns, hr⟩ := hx
      obtain ⟨od, ho, hl⟩ := lookIn_ns hns
      have J : PySem.W.InstAt s.heap a oe C (some od) := ⟨ha, hz.1, by unfold PySem.W.notCls; rw [hdd] <;> rfl, by rw [hz.2]; exact ho⟩
      exact PySem.W.kia_one (PySem.W.kitx_exc G.cl G.ga G.gg G.su G.ca G.sg G.tk G.mr) I.kIn J e (fun z => nomatch z) fun tk => ⟨.bl b, H, I.kept (t' := tk) fun _ _ z => z, rfl, q⟩
def isEF (i : Nat) (b : Bool) (env : Ev) (st : Sto) : Res D := match env[i]? with
  | some (some (.exo 0)) => .ok (.bl b) st
  | _ => .err
section
variable {X : Cx} {P : Par} {W : WX}
theorem q_isE {a dd C2 : Addr} {oe : Obj} {c0 i : Nat} {d0 : D} {b : Bool} {pn : List (Addr × Obj)} {n x T : Str} {p p0 p2 pos : Pos} (G : ExI X.K (P.CA c0)) (hk : PySem.W.kitOne X.K (.ref (P.CA c0)) (.ref C2) = some b) (hz : Zc (.ref (P.CA c0)) (some dd) oe) (hd : ∃ vs, oe.data = .fields vs)
    (hN : X.N[i]? = some n) (hvi : Vis X.env.scope n) (hdb : (n == ("__debug__" : Str)) = false) (hcd : (n == ("__classdict__" : Str)) = false) (hg : Gl X "isinstance") (hm : X.mg "isinstance" = none) (hT : Gl X T) (mT : X.mg T = some (.ref C2)) (hTd : (T == ("__debug__" : Str)) = false)
    (he : starEach [.Name n p0, .Name T p2] X.env = (false, eval (.Name n p0) X.env) :: starEach [.Name T p2] X.env) :
    PE (X.suite a ((a, oe) :: pn)) (.Call (.Name "isinstance" p) [.Name n p0, .Name T p2] [] pos) (tE X.K (inX P a dd c0 d0) W (isEF i b)) := by
  refine ⟨fun pins s σ H Q I h => (pe_callB (X := X.suite a ((a, oe) :: pn)) (call_isQ G hz hd) hg hm boot_isinstance (pa_cons (pe_var (X := X.suite a ((a, oe) :: pn)) hN hvi hdb hcd) (pa_cons (pe_glob (X := X.suite a ((a, oe) :: pn)) (v := .ref C2) hT mT rfl hTd) pa_nil) he) (by decide) (by decide) he).run pins s σ H Q I ?_⟩
  obtain ⟨M, env, st, sl, at_, q⟩ := h
  have hi : env[i]? = some (some (.exo 0)) ∧ isEF i b env st = .ok (.bl b) st := by
    unfold isEF at q ⊢
    split
    · rename_i e; exact ⟨e, rfl⟩
    · rename_i z
      split at q
      · rename_i e; exact absurd e z
      · exact q.elim
  obtain ⟨hi, he⟩ := hi
  rw [he] at q
  obtain ⟨v0, hv0, hx0⟩ := sl.2 i _ hi
  obtain ⟨a', ha', rfl⟩ : ∃ a', (inX P a dd c0 d0).xa 0 = some a' ∧ v0 = .ref a' := hx0
  cases ha'
  obtain ⟨v, ea, rd⟩ := at_.exn (dd, P.FN c0, d0) (by simp [inX])
  refine ⟨.ref a, hv0, ?_⟩
  exact ⟨C2, _, v, b, rfl, ea, hk, q (.bl b) M H (Stp.refl _ _) at_ (dv_bl.mpr rfl)⟩
end
end Q
namespace Q
open PySem PySem.Spec PyProof.Rows L2
theorem kit_exm {K : PySem.W.Frag} {cls : Value} {C : Addr} {b : Bool} (h : PySem.W.exmOne K cls (.ref C) = some b) (hs : cls = .ref C → b = true) : PySem.W.kitOne K cls (.ref C) = some b := by
  have h : (if (PySem.W.subIn K (.ref C) (.type "BaseException") == some true) = true then (if ((PySem.W.clsIn K C).isSome && PySem.W.typeIn K (.ref C) == some (.type "type")) = true then PySem.W.subIn K cls (.ref C) else none) else none) = some b := h
  unfold PySem.W.kitOne
  by_cases q : (cls == .ref C) = true
  · rw [if_pos q, hs (beq_iff_eq.mp q)]
  · rw [if_neg q]
    split at h
    · split at h
      · rename_i z
        show (if ((PySem.W.clsIn K C).isSome && PySem.W.typeIn K (.ref C) == some (.type "type")) = true then PySem.W.subIn K cls (.ref C) else none) = some b
        rw [if_pos z]
        exact h
      · cases h
    · cases h
end Q
end

section
set_option Elab.async false
set_option linter.all false
set_option maxRecDepth 100000
set_option maxHeartbeats 1000000
set_option autoImplicit false
/-! sum of a generator expression whose element may call. -/
namespace Q
open PySem PySem.Spec PyProof.Rows L2 GenW
/-- all of the turns -/
def sumS (it : ItD) (g : D → Ev → Option Ev) (F : Ev → Sto → Res D) : Nat → Nat → Int → Ev → Sto → Res D
  | 0, _, t, _, st => if it.fin st = true then .ok (.int t) st else .err
  | k + 1, i, t, env, st => match it.item i st with
    | none => .err
    | some d => match g d env with
      | none => .err
      | some env1 => match F env1 st with
        | .ok (.int x) s => sumS it g F k (i + 1) (t + x) env1 s
        | _ => .err
/-- the list that keeps the total -/
abbrev totO (t : Int) (tk : Tok) (c : Nat) : Obj := lstObj #[.int t tk] c
/-- the loop of sum: n falls -/
theorem sum_loop {P : Program} {w : World} {A : Around} {R : Result → Shared → Prop} {I S : Addr} (Go : Nat → Shared → Prop)
    (h : ∀ n s, Go n s → ∃ t tk c, s.heap.get? S = some (totO t tk c) ∧ wpAny (model P w) A.in1 (pyNext (.ref I)) (fun r s' => (r = none ∧ R (.ok (.ret (.int t tk))) s') ∨ ∃ x tx, r = some (.int x tx) ∧ s'.heap.get? S = some (totO t tk c) ∧ ∃ m, m < n ∧ ∀ (s'' : Shared) (tk' : Tok) (c' : Nat), s''.os = s'.os → s''.gens = s'.gens → (∀ b o, b ≠ S → s'.heap.get? b = some o → s''.heap.get? b = some o) → s''.heap.get? S = some (totO (t + x) tk' c') → Go m s'') (fun _ _ => False) s) :
    ∀ n s (st : Int), (st = 0 ∨ st = 2) → Go n s → codeAny (model P w) A (.builtin "sum.loop" ⟨[.ref I, .ref S, rawInt st, rawInt 0], []⟩) R s := by
  intro n
  induction n using Nat.strongRecOn with
  | ind n ih =>
    intro s st hst2 hs
    obtain ⟨t, tk, c, hS, hw⟩ := h n s hs
    refine codeAny_builtin F.entry_sum_loop ?_
    rw [Around.under_plainId F.plain_sum_loop _]
    show wpAny _ A.in1 (seqItems? (.ref S) >>= _) _ _ s
    refine wpAny_bind (wpAny_seqItems hS rfl ?_)
    show wpAny _ A.in1 (tryCatch (pyNext (.ref I)) _ >>= _) _ _ s
    refine wpAny_bind (wpAny_tryCatch (wpAny_mono hw (fun r s' hr => ?_) fun _ _ e => e.elim))
    rcases hr with ⟨rfl, hr⟩ | ⟨x, tx, rfl, hS', m, hm, hg⟩
    · exact wpAny_pure hr
    · rcases hst2 with rfl | rfl
      · show wpAny _ A.in1 (if (_ : Bool) = true then (mkInt (t + x) >>= _) else _) _ _ _
        split
        · refine wpAny_bind (wpAny_mkInt ?_)
          show wpAny _ A.in1 (updateSeq S (fun _ => #[.int (t + x) s'.toks]) >>= _) _ _ _
          refine wpAny_bind ?_
          refine wpAny_updateSeq hS' rfl (wpAny_pure ⟨plainId_quiet F.plain_sum_loop _, ih m hm _ 0 (.inl rfl) (hg _ _ _ rfl rfl (fun b o hb e => ?_) (Heap.get?_update_self _ hS' rfl))⟩)
          exact (Heap.get?_update_other _ _ (Ne.symm hb)).trans e
        · refine wpAny_bind (wpAny_rule ?_)
          refine wpAny_bind (wpAny_attempt (wpAny_holding (wpAny_add_int ?_)))
          show wpAny _ A.in1 (updateSeq S (fun _ => #[.int (t + x) s'.toks]) >>= _) _ _ _
          refine wpAny_bind (wpAny_updateSeq hS' rfl ?_)
          have hS₂ := Heap.get?_update_self (Obj.mapSeq fun _ => #[Value.int (t + x) s'.toks]) hS' rfl
          refine wpAny_bind (wpAny_letGo ?_)
          refine wpAny_bind (wpAny_updateSeq hS₂ rfl (wpAny_pure ⟨plainId_quiet F.plain_sum_loop _, ih m hm _ 2 (.inr rfl) (hg _ _ _ rfl rfl (fun b o hb e => ?_) (Heap.get?_update_self _ hS₂ rfl))⟩))
          exact (Heap.get?_update_other _ _ (Ne.symm hb)).trans ((Heap.get?_update_other _ _ (Ne.symm hb)).trans e)
      · show wpAny _ A.in1 ((holding [Value.int x tx] (binaryOp .Add (.int t tk) (.int x tx))).attempt >>= _) _ _ _
        refine wpAny_bind (wpAny_attempt (wpAny_holding (wpAny_add_int ?_)))
        show wpAny _ A.in1 (updateSeq S (fun _ => #[.int (t + x) s'.toks]) >>= _) _ _ _
        refine wpAny_bind (wpAny_updateSeq hS' rfl ?_)
        have hS₂ := Heap.get?_update_self (Obj.mapSeq fun _ => #[Value.int (t + x) s'.toks]) hS' rfl
        refine wpAny_bind (wpAny_letGo ?_)
        refine wpAny_bind (wpAny_updateSeq hS₂ rfl (wpAny_pure ⟨plainId_quiet F.plain_sum_loop _, ih m hm _ 2 (.inr rfl) (hg _ _ _ rfl rfl (fun b o hb e => ?_) (Heap.get?_update_self _ hS₂ rfl))⟩))
        exact (Heap.get?_update_other _ _ (Ne.symm hb)).trans ((Heap.get?_update_other _ _ (Ne.symm hb)).trans e)
/-- the total has been put in anew -/
theorem inv_tot {X : Cx} {pins : List (Addr × Obj)} {σ : L2.St} {H : Hp} {s s' : Shared} {S : Addr} {o o' : Obj} (hpn : ∀ p ∈ X.pn, p.1 ≠ S) (hA : Apart X S) (I : Inv X ((S, o) :: pins) σ H s) (ho : s'.os = s.os) (hb : AllBare s'.gens)
    (z3 : ∀ b ob, b ≠ S → s.heap.get? b = some ob → s'.heap.get? b = some ob) (eS' : s'.heap.get? S = some o') (nc' : ∀ v, o'.data ≠ .cell v) : Inv X [(S, o')] σ H s' := by
  obtain ⟨_, hS0, hSL, hSf, _⟩ := I.pin (S, o) (List.mem_append_right _ List.mem_cons_self)
  have I0 : Inv X [] σ H s := I.pins_of fun p hp => nomatch hp
  have nt : ∀ b u, H b = some u → b ≠ S := fun b u q hb => by
    have hS0 : H S = none := hS0
    rw [hb, hS0] at q; cases q
  obtain ⟨hh, g, d, t, os⟩ := s'
  have ho : os = s.os := ho
  subst ho
  have nc : ∀ b, b ∉ [S] → b ≠ S := fun b hb e => hb (by rw [e]; exact List.mem_singleton.mpr rfl)
  have J : Inv X [] σ H { s with heap := hh, gens := g, drawn := d, toks := t } := by
    refine I0.step (g' := g) (t' := t) (d' := d) (ch := [S]) (fun b hb => ?_)
      (fun b ob _ _ hc q _ => z3 b ob (nc b hc) q) (fun b ob _ _ hc q _ => ⟨ob.slots, z3 b ob (nc b hc) q⟩) (fun _ _ _ _ n => n) (fun b ob hc q => ⟨ob, z3 b ob (nc b hc) q⟩)
      (fun _ _ q => q) (fun _ _ _ q => q) (fun b ps q => ⟨#[], by rw [q]; simp⟩) (fun m hm => ?_) (fun b u q => ?_) hb
    · rw [List.mem_singleton.mp hb]
      refine ⟨.inr hA.1, hA.2.1, hA.2.2, fun p hp => ?_⟩
      rcases List.mem_append.mp hp with hp | hp
      · exact hpn p hp
      · cases hp
    · obtain ⟨ob, es, ep, ho, r⟩ := hm
      exact ⟨ob, es, ep, z3 _ ob (Ne.symm hSL) ho, r⟩
    · refine (I0.hok b u q).stay (fun c v hc y => z3 c v ?_ y) (fun _ y => y) fun _ _ y => y
      rcases hc with y | y
      · rw [y]; exact nt b u q
      · exact nt c _ y
  refine J.pins_of fun p hp => ?_
  rw [List.mem_singleton.mp hp]
  exact ⟨eS', hS0, hSL, hSf, nc'⟩
section
variable {X : Cx} {pins : List (Addr × Obj)} {H : Hp} {s : Shared}
/-- what sum's end wants -/
def SFin (X : Cx) (H : Hp) (s : Shared) (fp : List Addr) (Q : VK) (t : Int) (s1 : Shared) : Prop := ∃ H', s1.os = s.os ∧ AllBare s1.gens ∧ Un (frs X.stack) fp H H' s.heap s1.heap ∧ HOk X.prog X.w H' s1.heap ∧ Q (.int t) H'
def SYld (S : Addr) (a : Addr) (g : Nat) : Protocol := fun n s₀ v s1 kap => ∃ (x : Int) (tx : Tok), v = .int x tx ∧ s1.heap.IsGen a g ∧ s1.heap.NoLimit ∧ AllBare s1.gens ∧ s1.heap.get? S = s₀.heap.get? S ∧
  ∀ (t : Int) (tk : Tok) (c : Nat), s1.heap.get? S = some (totO t tk c) → ∀ (s'' : Shared) (tk' : Tok) (c' : Nat), s''.os = s1.os → AllBare s''.gens → (∀ b o, b ≠ S → s1.heap.get? b = some o → s''.heap.get? b = some o) → s''.heap.get? S = some (totO (t + x) tk' c') → kap (.send .none) s''
def SRet (X : Cx) (H : Hp) (s : Shared) (fp : List Addr) (Q : VK) (S : Addr) : GenEnd := fun n s₀ r s1 => ((r = .ok (.ret .none) ∨ r = .ok .next) ∧ ∃ t tk c, s₀.heap.get? S = some (totO t tk c) ∧ SFin X H s fp Q t s1) ∨ ∃ e, r = .error e ∧ False
/-- ahead of turn i -/
def SLoop (X : Cx) (A : Around) (H : Hp) (s : Shared) (scope : Scope) (code : Value) (fp : List Addr) (pn : List (Addr × Obj)) (P : Par) (tn : Nat → Heap → Prop) (itd : ItD) (g : D → Ev → Option Ev) (Fe : Ev → Sto → Res D) (M0 : List Addr) (H0 : Hp) (Wx : Value → Option Addr → Hp → Prop) (Q : VK) (S : Addr) (i : Nat) (s₀ s1 : Shared) : Prop :=
  ∃ (M' : List Addr) (H' : Hp) (σ' : L2.St) (env : Ev) (st : Sto) (t : Int) (tk : Tok) (c : Nat), Inv (gxCx X A s H scope s.heap.objs.size code fp pn) [(S, totO t tk c)] σ' H' s1 ∧ s₀.heap.get? S = some (totO t tk c) ∧ tn i s1.heap ∧ (∀ b ∈ fp, H' b = none) ∧ Stp M0 H0 M' H' ∧ EvR X.K P M' H' σ' env ∧ At X.K P M' H' st ∧ i ≤ itd.n ∧ Post X.K P M' H' (DV X.K) Wx (sumS itd g Fe (itd.n - i) i t env st) Q
theorem sx_seg {A : Around} {scope : Scope} {code : Value} {fp : List Addr} {pn : List (Addr × Obj)} {P : Par} {tn : Nat → Heap → Prop} {J : It} {itd : ItD} {gt : D → Ev → Option Ev} {Fe : Ev → Sto → Res D} {M0 : List Addr} {H0 : Hp} {Wx : Value → Option Addr → Hp → Prop} {Q : VK} {tg elt iter : Expr} {pos : Pos} {it a S : Addr} {g : Nat} {own : List Nat}
    (hh : A.handled = none) (hco : scope.isCoroutine = false) (T : Turn X.prog X.w X.K tg J fp it tn) (hJ : ItOk X.K P M0 H0 itd J) (hpn : ∀ p ∈ pn, p.1 ∉ fp) (hpS : ∀ p ∈ pn, p.1 ≠ S) (hSf : S ∉ fp) (hA : Apart (gxCx X A s H scope s.heap.objs.size code fp pn) S)
    (hgen : ∀ h : Heap, (∀ p ∈ pn, h.get? p.1 = some p.2) → h.IsGen a g)
    (hg : PG (gxCx X A s H scope s.heap.objs.size code fp pn) tg (tP X.K P gt)) (he : PE (gxCx X A s H scope s.heap.objs.size code fp pn) elt (tE X.K P W0 Fe)) :
    ∀ (k i : Nat) (s₀ s1 : Shared), itd.n - i = k → SLoop X A H s scope code fp pn P tn itd gt Fe M0 H0 Wx Q S i s₀ s1 →
      Seg (model X.prog X.w) A (SRet X H s fp Q S) (SYld S a g) k s₀ (.compLoop (.GeneratorExp elt [⟨tg, iter, [], 0⟩] scope pos) 0 (.ref it) .none (gxE X scope s.heap.objs.size code))
        ((model X.prog X.w).den (.compLoop (.GeneratorExp elt [⟨tg, iter, [], 0⟩] scope pos) 0 (.ref it) .none (gxE X scope s.heap.objs.size code))) [] s1 := by
  have stat : ∀ {o : Obj} {σ' : L2.St} {H' : Hp} {s' : Shared}, Inv (gxCx X A s H scope s.heap.objs.size code fp pn) [(S, o)] σ' H' s' → (∀ b ∈ fp, H' b = none) → ∀ b ∈ fp, FpOk (gxCx X A s H scope s.heap.objs.size code fp pn) [(S, o)] H' b := fun {o σ' H' s'} I' hn b hb =>
    ⟨hn b hb, (I'.ok.exf b hb).1, I'.ok.exfs b hb, .inl hb, fun x c e => (I'.ok.exf b hb).2 x c e, fun p hp e => by
      rcases List.mem_append.mp hp with z | z
      · exact hpn p z (by rw [e]; exact hb)
      · rw [List.mem_singleton.mp z] at e
        exact hSf (by rw [show S = b from e]; exact hb)⟩
  have pinned : ∀ {ps : List (Addr × Obj)} {σ' : L2.St} {H' : Hp} {s' : Shared}, Inv (gxCx X A s H scope s.heap.objs.size code fp pn) ps σ' H' s' → s'.heap.IsGen a g := fun {ps σ' H' s'} I' => hgen _ fun p hp => (I'.pin p (List.mem_append_left _ hp)).1
  intro k
  induction k with
  | zero =>
    intro i s₀ s1 hk hl
    obtain ⟨M', H', σ', env, st, t, tk, c, I, hS0, ht, hn, sp, sl, at_, hi, p⟩ := hl
    have hin : i = itd.n := by omega
    subst hin
    show Seg _ A _ _ _ s₀ _ ((compTurn (.GeneratorExp elt [⟨tg, iter, [], 0⟩] scope pos) 0 (.ref it) .none (gxE X scope s.heap.objs.size code)).onRaise (leaving (gxE X scope s.heap.objs.size code))) [] s1
    rw [compTurn_gen, Sem.onRaise_eq_wrap]
    refine seg_bind_wrap (wpAny_standAt ?_)
    rw [Nat.sub_self, sumS] at p
    split at p
    · rename_i hf
      refine seg_bind_wrap ?_
      rw [over_comp]
      refine thnF (T.done (gxCx X A s H scope s.heap.objs.size code fp pn) rfl rfl rfl rfl itd.n [(S, totO t tk c)] s1 σ' H' (fun _ _ => False) I (stat I hn) ht ((hJ itd.n M' H' st sp at_).2 (Nat.le_refl _) hf)) fun r s2 ⟨hr, I2⟩ => ?_
      subst hr
      exact seg_end (.ok .next) (.inl ⟨.inr rfl, t, tk, c, hS0, H', I2.os, I2.bare, I2.base, I2.hok, p _ M' H' (Stp.refl _ _) at_ (dv_int.mpr rfl)⟩)
    · exact p.elim
  | succ k ih =>
    intro i s₀ s1 hk hl
    obtain ⟨M', H', σ', env, st, t, tk, c, I, hS0, ht, hn, sp, sl, at_, hi, p⟩ := hl
    have hlt : i < itd.n := by omega
    rw [hk, sumS] at p
    show Seg _ A _ _ _ s₀ _ ((compTurn (.GeneratorExp elt [⟨tg, iter, [], 0⟩] scope pos) 0 (.ref it) .none (gxE X scope s.heap.objs.size code)).onRaise (leaving (gxE X scope s.heap.objs.size code))) [] s1
    rw [compTurn_gen, Sem.onRaise_eq_wrap]
    refine seg_bind_wrap (wpAny_standAt ?_)
    cases e1 : itd.item i st with
    | none => rw [e1] at p; exact p.elim
    | some d =>
    rw [e1] at p
    dsimp only at p
    cases e2 : gt d env with
    | none => rw [e2] at p; exact p.elim
    | some env1 =>
    rw [e2] at p
    dsimp only at p
    obtain ⟨go, yl⟩ := (hJ i M' H' st sp at_).1 d hlt e1
    refine seg_bind_wrap ?_
    rw [over_comp]
    refine thnF (T.item (gxCx X A s H scope s.heap.objs.size code fp pn) rfl rfl rfl rfl i [(S, totO t tk c)] s1 σ' H' (fun _ _ => False) I (stat I hn) ht go) fun r s2 ⟨u, hr, h2⟩ => ?_
    subst hr
    refine seg_bind_wrap ?_
    rw [over_comp]
    refine thnF h2 fun _ s3 ⟨x, H3, I3, r3, y3, t3, n3⟩ => ?_
    obtain ⟨M3, sp3, a3, d3⟩ := yl x H3 y3
    have sl3 := sl.mono at_.mok sp3
    have I3' := I3.pinned (stat I3 n3) (T.obj _ _ t3)
    refine seg_bind_wrap ?_
    rw [over_comp]
    refine thnF (hg.run _ s3 σ' H3 x u (fun σ4 H4 => ∃ M4, Stp M3 H3 M4 H4 ∧ At X.K P M4 H4 st ∧ EvR X.K P M4 H4 σ4 env1) I3' r3 ⟨M3, env, st, d, sl3, a3, d3, env1, e2, fun σ4 M4 H4 s4 a4 l4 => ⟨M4, s4, a4, l4⟩⟩) fun _ s4 ⟨σ4, H4, I4, M4, sp4, a4, sl4⟩ => ?_
    refine seg_bind_wrap ?_
    simp only [List.forIn_nil]
    refine wpAny_pure ?_
    simp only [if_true]
    have hy : ∀ v, yieldOut (gxE X scope s.heap.objs.size code) v = yieldValue v := fun v => by simp only [yieldOut]; rw [show (gxE X scope s.heap.objs.size code).scope.isCoroutine = false from hco]; simp only [Bool.false_eq_true, if_false]
    simp only [hy]
    rw [Sem.bind_eq_wrap', Sem.bind_eq_wrap', Sem.wrap_wrap, Sem.wrap_wrap]
    cases e3 : Fe env1 st with
    | exc c d' st' => rw [e3] at p; exact p.elim
    | err => rw [e3] at p; exact p.elim
    | ok b st' =>
    rw [e3] at p
    cases b with
    | int b =>
      have p4 := Post.step (sp3.trans sp4) p
      refine seg_wrap ?_
      rw [over_comp]
      refine thnF (he.run _ s4 σ4 H4 (fun y H5 => ∃ M5, y = .int b ∧ Stp M4 H4 M5 H5 ∧ At X.K P M5 H5 st') I4 ⟨M4, env1, st, sl4, a4, ?_⟩) fun y s5 ⟨v, H5, I5, r5, M5, hv, sp5, a5⟩ => ?_
      · rw [e3]
        exact fun v M5 H5 s5 a5 q5 => ⟨M5, dv_int.mp q5, s5, a5⟩
      · subst hv
        obtain ⟨ty, hyv⟩ : ∃ ty, y = .int b ty := r5
        subst hyv
        have p5 := Post.step sp5 p4
        have pinS : s5.heap.get? S = some (totO t tk c) := (I5.pin (S, totO t tk c) (List.mem_append_right _ (List.mem_append_left _ (List.mem_singleton.mpr rfl)))).1
        refine seg_at (seg_yield rfl rfl rfl ⟨b, ty, rfl, pinned I5, I5.nolimit, I5.bare, pinS.trans hS0.symm, fun t' tk1 c1 e s'' tk' c' h1 h2 h3 h4 => ?_⟩)
        rw [pinS] at e
        cases e
        have pin' : ∀ b ∈ fp, ∀ o, s3.heap.get? b = some o → s5.heap.get? b = some o ∧ H5 b = none := fun b hb o e =>
          let z := I5.pin (b, o) (List.mem_append_right _ (List.mem_append_right _ (mem_pinsAt hb e)))
          ⟨z.1, z.2.1⟩
        refine seg_again rfl (ih (i + 1) s'' s'' (by omega) ⟨M5, H5, σ4, env1, st', t + b, tk', c', inv_tot hpS hA I5 h1 h2 h3 h4 (fun v q => by cases q), h4, ?_, fun b hb => ?_, ((sp.trans sp3).trans sp4).trans sp5, sl4.mono a4.mok sp5, a5, by omega, ?_⟩)
        · exact T.keep _ _ _ t3 fun b hb o e => h3 b o (fun z => hSf (by rw [← z]; exact hb)) (pin' b hb o e).1
        · obtain ⟨o, e, _⟩ := T.obj _ _ t3 b hb
          exact (pin' b hb o e).2
        · rw [show itd.n - (i + 1) = k by omega]
          exact p5
    | _ => exact p.elim
variable {P : Par} {W : WX}
/-- from the beginning -/
theorem sx_seg0 {A : Around} {scope : Scope} {code : Value} {fp : List Addr} {pn : List (Addr × Obj)} {tn : Nat → Heap → Prop} {J : It} {itd : ItD} {gt : D → Ev → Option Ev} {Fe : Ev → Sto → Res D} {M0 : List Addr} {H0 : Hp} {Wx : Value → Option Addr → Hp → Prop} {Q : VK} {tg elt iter : Expr} {pos : Pos} {it a S : Addr} {g : Nat}
    (hh : A.handled = none) (hco : scope.isCoroutine = false) (T : Turn X.prog X.w X.K tg J fp it tn) (hJ : ItOk X.K P M0 H0 itd J) (hpn : ∀ p ∈ pn, p.1 ∉ fp) (hpS : ∀ p ∈ pn, p.1 ≠ S) (hSf : S ∉ fp) (hA : Apart (gxCx X A s H scope s.heap.objs.size code fp pn) S)
    (hgen : ∀ h : Heap, (∀ p ∈ pn, h.get? p.1 = some p.2) → h.IsGen a g)
    (hg : PG (gxCx X A s H scope s.heap.objs.size code fp pn) tg (tP X.K P gt)) (he : PE (gxCx X A s H scope s.heap.objs.size code fp pn) elt (tE X.K P W0 Fe)) {s₀ s1 : Shared} (hl : SLoop X A H s scope code fp pn P tn itd gt Fe M0 H0 Wx Q S 0 s₀ s1) :
    Seg (model X.prog X.w) A (SRet X H s fp Q S) (SYld S a g) itd.n s₀ (.compStart (.GeneratorExp elt [⟨tg, iter, [], 0⟩] scope pos) 0 (.ref it) .none (gxE X scope s.heap.objs.size code))
      ((model X.prog X.w).den (.compStart (.GeneratorExp elt [⟨tg, iter, [], 0⟩] scope pos) 0 (.ref it) .none (gxE X scope s.heap.objs.size code))) [] s1 := by
  have loop := sx_seg (own := []) (iter := iter) (pos := pos) hh hco T hJ hpn hpS hSf hA hgen hg he itd.n 0 s₀ s1 (Nat.sub_zero _) hl
  have ht : tn 0 s1.heap := let ⟨_, _, _, _, _, _, _, _, _, _, ht, _⟩ := hl; ht
  show Seg _ A _ _ _ s₀ _ ((compStart (.GeneratorExp elt [⟨tg, iter, [], 0⟩] scope pos) 0 (.ref it) .none (gxE X scope s.heap.objs.size code)).onRaise (leaving (gxE X scope s.heap.objs.size code))) [] s1
  unfold compStart
  rw [Sem.onRaise_eq_wrap]
  show Seg _ A _ _ _ s₀ _ ((ask >>= _).wrap _ _ _ _) [] s1
  refine seg_bind_wrap (wpAny_askSetting ?_)
  split
  · exact seg_again rfl loop
  · first
      | exact seg_bind_wrap (wpAny_rule (seg_bind_wrap (wpAny_standAt (seg_bind_wrap (T.self _ 0 s1 _ _ ht (seg_again rfl loop))))))
      | (refine seg_bind_wrap (wpAny_rule ?_); show Seg _ A _ _ _ s₀ _ ((standAt iter.pos >>= _).wrap _ _ _ _) [] s1; exact seg_bind_wrap (wpAny_standAt (seg_bind_wrap (T.self _ 0 s1 _ _ ht (seg_again rfl loop)))))
/-- the sum over what has been made -/
theorem sx_all {A : Around} {s6 : Shared} {fp : List Addr} {Q : VK} {a S : Addr} {g n : Nat} {c : Code} {R : Result → Shared → Prop} {tk0 : Tok} {c0 : Nat} (hh : A.handled = none) (hd : A.depth + 5 < recursionLimit) (hSa : S ≠ a) (hSc : S ≠ cStatics)
    (hR : ∀ t tk s', SFin X H s fp Q t s' → R (.ok (.ret (.int t tk))) s') (hg : s6.heap.IsGen a g) (hl : s6.heap.NoLimit) (hb : AllBare s6.gens) (hgs : s6.gens[g]? = some (.fresh c)) (hS : s6.heap.get? S = some (totO 0 tk0 c0))
    (hseg : ∀ s'' : Shared, s''.heap = s6.heap → s''.os = s6.os → AllBare s''.gens → Seg (model X.prog X.w) A.in1.in1 (SRet X H s fp Q S) (SYld S a g) n s'' c ((model X.prog X.w).den c) [] s'') :
    codeAny (model X.prog X.w) A (.builtin "sum.loop" ⟨[.ref a, .ref S, rawInt 0, rawInt 0], []⟩) R s6 := by
  have fin : ∀ {t : Int} {s1 : Shared} {gs : GenState}, gs.bare = true → SFin X H s fp Q t s1 → SFin X H s fp Q t (s1.setGen g gs) := fun {b s1 gs} hgb ⟨H', h1, h2, h3, h4, h5⟩ => ⟨H', h1, allBare_setGen h2 hgb, h3, h4, h5⟩
  refine sum_loop (fun n s' => s'.heap.IsGen a g ∧ s'.heap.NoLimit ∧ AllBare s'.gens ∧ (∃ t tk c, s'.heap.get? S = some (totO t tk c)) ∧ ∃ gs, s'.gens[g]? = some gs ∧ gs.Goes (model X.prog X.w) A.in1.in1 (SRet X H s fp Q S) (SYld S a g) n (.send .none) (s'.setGen g .running)) ?_ n s6 0 (.inl rfl) ⟨hg, hl, hb, ⟨_, _, _, hS⟩, _, hgs, rfl, hseg _ rfl rfl (allBare_setGen hb rfl)⟩
  rintro n s' ⟨ig, nl, bare, ⟨t, tk, c, hS'⟩, gs, hgs, go⟩
  refine ⟨t, tk, c, hS', ?_⟩
  have hgl : g < s'.gens.size := (Array.getElem?_eq_some_iff.mp hgs).1
  refine wpAny_gsz (n := g + 1) hgl ?_
  refine next_genG (F := fun _ s₀ s1 => ∃ t tk c, s₀.heap.get? S = some (totO t tk c) ∧ SFin X H s fp Q t s1) (Er := fun _ _ => False) hh nl (by show A.depth < _; omega) ig hgs go (fun v s₁ gs' hgb hv hsz => ?_) (fun s₁ hp h' hk hsz => ?_) fun e s₁ hx => hx.elim
  · obtain ⟨x, tx, rfl, i1, i2, i3, hSS, ht⟩ := hv
    have hS1 : s₁.heap.get? S = some (totO t tk c) := hSS.trans hS'
    have hsz1 : g < s₁.gens.size := by
      have q : (s₁.setGen g gs').gens.size = s₁.gens.size := setGen_size _ _ _
      have hsz' : g + 1 ≤ (s₁.setGen g gs').gens.size := hsz
      omega
    refine .inr ⟨x, tx, rfl, hS1, ?_⟩
    have k := fun (s'' : Shared) (tk' : Tok) (c' : Nat) (z1 : s''.os = s₁.os) (z2 : s''.gens = (s₁.setGen g gs').gens) (z3 : ∀ b o, b ≠ S → s₁.heap.get? b = some o → s''.heap.get? b = some o) (z4 : s''.heap.get? S = some (totO (t + x) tk' c')) =>
      ht t tk c hS1 (s''.setGen g .running) tk' c' z1 (allBare_setGen (by rw [z2]; exact allBare_setGen i3 hgb) rfl) z3 z4
    cases n with
    | zero =>
      exact (k { s₁.setGen g gs' with heap := s₁.heap.update S (Obj.mapSeq fun _ => #[Value.int (t + x) tk]) } tk _ rfl rfl (fun b o hbS e => (Heap.get?_update_other _ _ (Ne.symm hbS)).trans e) (Heap.get?_update_self _ hS1 rfl)).elim
    | succ m =>
      refine ⟨m, Nat.lt_succ_self m, fun s'' tk' c' z1 z2 z3 z4 => ⟨?_, ?_, by rw [z2]; exact allBare_setGen i3 hgb, ⟨_, _, _, z4⟩, gs', by rw [z2]; exact setGen_at hsz1, k s'' tk' c' z1 z2 z3 z4⟩⟩
      · obtain ⟨o, nm, qn, ho, r⟩ := i1
        exact ⟨o, nm, qn, z3 a o (Ne.symm hSa) ho, r⟩
      · obtain ⟨mc, hns, hnn⟩ := i2
        exact ⟨mc, hns.at' fun o e => z3 _ o (Ne.symm hSc) e, hnn⟩
  · obtain ⟨t1, tk1, c1, e, H', h1, h2, h3, h4, h5⟩ := hp
    have e : s'.heap.get? S = some (totO t1 tk1 c1) := e
    rw [hS'] at e
    cases e
    exact .inl ⟨rfl, hR t tk _ ⟨H', h1, allBare_setGen h2 rfl, h3.trans (Un.kept hk), h4.kept hk, h5⟩⟩
/-- sum(element for target in iter) -/
theorem q_sum {c t : Addr} {scope : Scope} {own : List Nat} {k : Nat} {tg elt iter : Expr} {p pos gpos : Pos} {Fi : Ev → Sto → Res ItD} {gt : D → Ev → Option Ev} {Fe : Ev → Sto → Res D}
    (hr : Room (k + 2) X.A) (hgd : X.A.guards = some []) (hgl : Gl X "sum") (hm : X.mg "sum" = none) (hbt : bootBuiltins "sum" = some (.builtin "sum")) (TB : LamX.TabB X.base X.mg c t) (hcode : X.env.code = .ref c) (hmT : (t, X.env.qual ++ "<genexpr>") ∈ P.T) (hu : ∀ p ∈ P.T, p.1 = t → p.2 = X.env.qual ++ "<genexpr>")
    (L : GnS X.N X.env.scope scope own) (hi : PI X tg iter (tI X.K P W Fi)) (hg : ∀ (A : Around) (s : Shared) (H : Hp) (code : Value) (fp : List Addr) (pn : List (Addr × Obj)), Room k (A.deeper (gxE X scope s.heap.objs.size code)) → A.guards = some [] → PG (gxCx X A s H scope s.heap.objs.size code fp pn) tg (tP X.K P gt))
    (he : ∀ (A : Around) (s : Shared) (H : Hp) (code : Value) (fp : List Addr) (pn : List (Addr × Obj)), Room k (A.deeper (gxE X scope s.heap.objs.size code)) → A.guards = some [] → PE (gxCx X A s H scope s.heap.objs.size code fp pn) elt (tE X.K P W0 Fe))
    (hs : ∀ v, genFold iter X.env v = pure v) (hes : starEach [.GeneratorExp elt [⟨tg, iter, [], 0⟩] scope gpos] X.env = (false, eval (.GeneratorExp elt [⟨tg, iter, [], 0⟩] scope gpos) X.env) :: starEach [] X.env) :
    PE X (.Call (.Name "sum" p) [.GeneratorExp elt [⟨tg, iter, [], 0⟩] scope gpos] [] pos) (tE X.K P W fun env st => (Fi env st).bind fun it s1 => sumS it gt Fe it.n 0 0 (wipeE env own) s1) := by
  refine ⟨fun pins s σ H Q I h => ?_⟩
  obtain ⟨M, env, st, sl, at_, pp⟩ := h
  refine wpAny_Call_Name_kw (ld_blt I hgl hm hbt ?_)
  refine PyProof.Rows.callWith_builtin1 ?_ hes (by rfl)
  rw [hes]
  show wpAny _ _ (spliced ((false, eval (.GeneratorExp elt [⟨tg, iter, [], 0⟩] scope gpos) X.env) :: backTo pos (starEach [] X.env))) _ _ s
  refine Calls.spliced_cons ?_
  refine wpAny_GeneratorExp_make L.co (closure_ok (L.has I.ok)) L.cell L.dot L.kind (by have := hr.dp; omega) ?_ hs
  refine wpAny_mono (hi.run pins s σ H (fun J H1 => ∃ itd M1 st1, At X.K P M1 H1 st1 ∧ EvR X.K P M1 H1 σ env ∧ ItOk X.K P M1 H1 itd J ∧ Post X.K P M1 H1 (DV X.K) (fun c d H => W c d σ H) (sumS itd gt Fe itd.n 0 0 (wipeE env own) st1) Q) I ?_) (fun xv s1 h1 => wpAny_mono h1 (fun itv s2 h2 => ?_) fun _ _ e => e) fun _ _ e => e
  · exact tG.go sl at_ pp fun J H1 itd M1 st1 s1 a1 sl1 r1 p1 => ⟨itd, M1, st1, a1, sl1, r1, p1⟩
  obtain ⟨it, fp, tn, J, H1, rfl, I1, T, t0, f0, itd, M1, st1, a1, sl1, hJ, p1⟩ := h2
  refine ⟨I1.nolimit, ?_⟩
  refine gen_code I1 TB hcode hmT hu a1.tab fun code H2 s4 I2 hE T2 hfr hkp => ?_
  obtain ⟨bm, ob, e1, e2, e3, e4, e5, e6, e7, e8⟩ := TB.bm
  refine wpAny_builtinsFor (m := X.mg) (by rw [I2.ok.glob]; exact I2.mod.glob.keeps I2.bk) e1 e2 (I2.bk _ _ e5) e6 e7 e8 ?_
  intro h' hns hsb
  refine Calls.spliced_nil ?_
  have hdp := hr.dp
  have hun := hr.un
  have l2 : ∀ b ∈ fp, b < s2.heap.objs.size := fun b hb => let ⟨o, e, _⟩ := T.obj _ _ t0 b hb; Heap.lt_size e
  have l4 : ∀ b ∈ fp, b < s4.heap.objs.size := fun b hb => let ⟨o, e, _⟩ := T.obj _ _ t0 b hb; Heap.lt_size (hkp b o (f0 b hb).1 e)
  have n2 : ∀ b ∈ fp, H2 b = none := fun b hb => hfr b (l2 b hb) (f0 b hb).1
  have f2 : ∀ b ∈ fp, FpOk X pins H2 b := fun b hb => ⟨n2 b hb, (f0 b hb).2⟩
  have t4 : tn 0 s4.heap := T.keep _ _ _ t0 fun b hb o e => hkp b o (f0 b hb).1 e
  have hsz : h'.objs.size = s4.heap.objs.size + 1 := by rw [hsb.1, Heap.size_push]
  have keep' : ∀ b o, s4.heap.get? b = some o → h'.get? b = some o := fun b o e => hsb.extBut b o (Nat.ne_of_lt (Heap.lt_size e)) (Heap.get?_push_of_some _ e)
  obtain ⟨go, hgo⟩ : ∃ go : Obj, go = { cls := .type "generator", data := .fields #[.int s4.gens.size 0, .str "<genexpr>" (s4.toks + 1), .str (X.env.qual ++ "<genexpr>") (s4.toks + 1 + 1)] } := ⟨_, rfl⟩
  have hpush : (h'.push go).get? h'.objs.size = some go := by rw [hgo]; exact Heap.get?_push_size _ rfl
  have keep5 : ∀ b o, s4.heap.get? b = some o → (h'.push go).get? b = some o := fun b o e => Heap.get?_push_of_some _ (keep' b o e)
  have hgen : ∀ h : Heap, (∀ p ∈ [(h'.objs.size, go)], h.get? p.1 = some p.2) → h.IsGen h'.objs.size s4.gens.size := fun h hp => by
    have z := hp (h'.objs.size, go) (List.mem_singleton.mpr rfl)
    subst hgo
    exact ⟨_, _, _, z, rfl, rfl, rfl⟩
  rw [← hgo]
  have hfpn : ∀ p ∈ [(h'.objs.size, go)], p.1 ∉ fp := fun p hp hb => by
    rw [List.mem_singleton.mp hp] at hb
    have := l4 _ hb
    have h9 : (h'.objs.size : Nat) < s4.heap.objs.size := this
    omega
  have sp2 : Stp M1 H1 M1 H2 := Stp.ext hE
  have p2 := Post.step sp2 p1
  have a2 : At X.K P M1 H2 st1 := a1.ext hE T2
  have sl2 : EvR X.K P M1 H2 σ env := sl1.mono a1.mok sp2
  have hrk : Room (k + 1) X.A.in1.in1 := ⟨hr.hd, by show X.A.depth + 3 * (k + 1) + 5 < _; omega, by show X.A.units + 1 + 1 + 16 * (k + 1) + 200 < _; omega⟩
  have hpsz : (h'.push go).objs.size = h'.objs.size + 1 := Heap.size_push _ _
  refine call_function_tree F.kind_sum F.plain_sum F.entry_sum (F.args_sum1 _) ?_
  unfold Builtin.«sum»
  simp only [List.length_cons, List.length_nil]
  rw [if_neg (by decide)]
  refine wpAny_bind (wpAny_of_eq (show Builtin.Builtins.bindParams "sum" ["start"] 0 { } = pure [none] from rfl) ?_)
  refine wpAny_bind (wpAny_pyIter_gen (g := s4.gens.size) (hgen _ fun p hp => by rw [List.mem_singleton.mp hp]; exact hpush) ?_)
  refine wpAny_bind (wpAny_mkInt ?_)
  refine wpAny_bind (wpAny_pure ?_)
  simp only [List.forIn_cons, List.forIn_nil]
  refine wpAny_bind (wpAny_bind (wpAny_bind (wpAny_isInstance (T := "int") (b := false) (typeIs_int _ _ _) PySem.sub_int_str ?_)))
  simp only [Bool.false_eq_true, if_false]
  refine wpAny_pure (wpAny_bind (wpAny_bind (wpAny_isInstance (T := "int") (b := false) (typeIs_int _ _ _) PySem.sub_int_bytes ?_)))
  simp only [Bool.false_eq_true, if_false]
  refine wpAny_pure (wpAny_bind (wpAny_bind (wpAny_isInstance (T := "int") (b := false) (typeIs_int _ _ _) PySem.sub_int_bytearray ?_)))
  simp only [Bool.false_eq_true, if_false]
  refine wpAny_pure (wpAny_pure ?_)
  refine wpAny_bind (wpAny_newObj_type ?_)
  have hS6 : ∀ (tk : Tok), ((h'.push go).push (totO 0 tk 0)).get? (h'.push go).objs.size = some (totO 0 tk 0) := fun tk => Heap.get?_push_size _ rfl
  have keep6 : ∀ (tk : Tok) b o, s4.heap.get? b = some o → ((h'.push go).push (totO 0 tk 0)).get? b = some o := fun tk b o e => Heap.get?_push_of_some _ (keep5 b o e)
  have hpush6 : ∀ (tk : Tok), ((h'.push go).push (totO 0 tk 0)).get? h'.objs.size = some go := fun tk => Heap.get?_push_of_some _ hpush
  have hSs : s4.heap.objs.size < (h'.push go).objs.size := by rw [hpsz]; omega
  have hSf : (h'.push go).objs.size ∉ fp := fun hb => Nat.lt_irrefl _ (Nat.lt_trans hSs (l4 _ hb))
  have hcl : cStatics < s4.heap.objs.size := let ⟨_, hn, _⟩ := I2.nolimit; hn.lt
  have hSnf : (h'.push go).objs.size ∉ frs X.stack := fun z => by
    rcases List.mem_cons.mp (I2.stkSub _ z) with e | e
    · have h1 := I2.lt
      rw [← e] at h1
      exact Nat.lt_irrefl _ (Nat.lt_trans hSs h1)
    · exact I2.nofs (Nat.le_of_lt hSs) e
  refine wpAny_pure ⟨plainId_quiet F.plain_sum_loop _, sx_all (X := X) (A := X.A) (H := H2) (s := s4) (fp := fp) (Q := Q) (S := (h'.push go).objs.size) (g := s4.gens.size) (n := itd.n) (c := .compStart (.GeneratorExp elt [⟨tg, iter, [], 0⟩] scope gpos) 0 (.ref it) .none (gxE X scope s4.heap.objs.size code)) hr.hd (by omega) (by rw [hpsz]; exact Nat.succ_ne_self _) (Nat.ne_of_gt (Nat.lt_trans hcl hSs)) (fun t tk s' hf => ?_) (hgen _ fun p hp => by rw [List.mem_singleton.mp hp]; exact hpush6 _) (I2.nolimit.keeps (keep6 _)) (AllBare.push I2.bare rfl) (Array.getElem?_push_size ..) (hS6 _) fun s'' h1 h2 h3 => ?_⟩
  · obtain ⟨H', g1, g2, g3, g4, g5⟩ := hf
    exact ⟨.int t, H', I2.call' (ch := fp) g1 g3 g4 g2 fun b hb => ⟨(f2 b hb).2.2.2.1, (f2 b hb).2.1, (f2 b hb).2.2.2.2.1, (f2 b hb).2.2.2.2.2⟩, ⟨tk, rfl⟩, g5⟩
  · have k5 : ∀ b o, s4.heap.get? b = some o → s''.heap.get? b = some o := fun b o e => by rw [h1]; exact keep6 _ b o e
    have hns5 : s''.heap.Ns s4.heap.objs.size (fun y => if y = (".0" : Str) then some (.ref it) else none) := by
      rw [h1]
      exact (hns.push _).push _
    have I5 := gx_start (A := X.A.in1.in1) (s5 := s'') (code := code) (fp := fp) (pn := [(h'.objs.size, go)]) (own := own) I2 L hr.hd I2.ok.frames (fun b hb => ⟨f2 b hb, l4 b hb⟩) hns5 k5 h2 h3 fun p hp => by
      rw [List.mem_singleton.mp hp]
      refine ⟨by rw [h1]; exact hpush6 _, by show s4.heap.objs.size < h'.objs.size; omega, fun v q => ?_⟩
      rw [hgo] at q
      cases q
    have hA : Apart (gxCx X X.A.in1.in1 s4 H2 scope s4.heap.objs.size code fp [(h'.objs.size, go)]) (h'.push go).objs.size := ⟨Nat.le_of_lt hSs, Nat.ne_of_gt hSs, fun x c e z => by
      obtain ⟨v, q⟩ := I5.cell x c e
      rw [z] at q
      obtain ⟨o, ho, hd⟩ := q
      rw [h1, hS6] at ho
      cases ho
      cases hd⟩
    refine sx_seg0 (A := X.A.in1.in1) (H := H2) (s := s4) (code := code) (J := J) (tn := tn) (itd := itd) (M0 := M1) (H0 := H1) hr.hd L.co T hJ hfpn (fun p hp e => by rw [List.mem_singleton.mp hp] at e; have e : (h'.objs.size : Nat) = (h'.push go).objs.size := e; omega) hSf hA hgen (hg _ _ _ _ _ _ (hrk.deeper _) hgd) (he _ _ _ _ _ _ (hrk.deeper _) hgd) ⟨M1, H2, _, wipeE env own, st1, 0, _, 0, I5.pins_of fun p hp => ?_, by rw [h1]; exact hS6 _, T.keep _ _ _ t4 fun b _ o e => k5 b o e, n2, sp2, sl2.wipe own, a2, Nat.zero_le _, by rw [Nat.sub_zero]; exact p2⟩
    rw [List.mem_singleton.mp hp]
    exact ⟨by rw [h1]; exact hS6 _, I2.hok.fresh (Nat.le_of_lt hSs), Nat.ne_of_gt hSs, hSnf, fun v q => by cases q⟩
end
end Q
end

section
set_option Elab.async false
set_option linter.all false
set_option maxRecDepth 100000
set_option maxHeartbeats 1000000
set_option autoImplicit false
/-! any of a generator expression whose element may call. -/
namespace Q
open PySem PySem.Spec PyProof.Rows L2 GenW
/-- the loop of all: n falls -/
theorem any_loop {P : Program} {w : World} {A : Around} {R : Result → Shared → Prop} {I : Addr} (Go : Nat → Shared → Prop)
    (h : ∀ n s, Go n s → wpAny (model P w) A.in1 (pyNext (.ref I)) (fun r s' => (r = none ∧ R (.ok (.ret (.bool false))) s') ∨ (r = some (.bool true) ∧ R (.ok (.ret (.bool true))) s') ∨ (r = some (.bool false) ∧ ∃ m, m < n ∧ Go m s')) (fun _ _ => False) s) :
    ∀ n s, Go n s → codeAny (model P w) A (.builtin "any.loop" ⟨[.ref I], []⟩) R s := by
  intro n
  induction n using Nat.strongRecOn with
  | ind n ih =>
    intro s hs
    refine codeAny_builtin F.entry_any_loop ?_
    rw [Around.under_plainId F.plain_any_loop _]
    show wpAny _ A.in1 (pyNext (.ref I) >>= _) _ _ s
    refine wpAny_bind (wpAny_mono (h n s hs) (fun r s' hr => ?_) fun _ _ e => e.elim)
    rcases hr with ⟨rfl, hr⟩ | ⟨rfl, hr⟩ | ⟨rfl, m, hm, hg⟩
    · exact wpAny_bind (wpAny_rule (wpAny_pure hr))
    · refine wpAny_bind (wpAny_holding (wpAny_truthy_bool ?_))
      refine wpAny_bind (wpAny_letGo ?_)
      simp only [if_true]
      exact wpAny_bind (wpAny_rule (wpAny_pure hr))
    · refine wpAny_bind (wpAny_holding (wpAny_truthy_bool ?_))
      refine wpAny_bind (wpAny_letGo ?_)
      simp only [Bool.false_eq_true, if_false]
      exact wpAny_pure ⟨plainId_quiet F.plain_any_loop _, ih m hm s' hg⟩
/-- all of the turns -/
def anyS (it : ItD) (g : D → Ev → Option Ev) (F : Ev → Sto → Res D) : Nat → Nat → Ev → Sto → Res D
  | 0, _, _, st => if it.fin st = true then .ok (.bl false) st else .err
  | k + 1, i, env, st => match it.item i st with
    | none => .err
    | some d => match g d env with
      | none => .err
      | some env1 => match F env1 st with
        | .ok (.bl false) s => anyS it g F k (i + 1) env1 s
        | .ok (.bl true) s => .ok (.bl true) s
        | _ => .err
section
variable {X : Cx} {pins : List (Addr × Obj)} {H : Hp} {s : Shared}
/-- what all's end wants -/
def YFin (X : Cx) (H : Hp) (s : Shared) (fp : List Addr) (Q : VK) (b : Bool) (s1 : Shared) : Prop := ∃ H', s1.os = s.os ∧ AllBare s1.gens ∧ Un (frs X.stack) fp H H' s.heap s1.heap ∧ HOk X.prog X.w H' s1.heap ∧ Q (.bl b) H'
def YYld (X : Cx) (H : Hp) (s : Shared) (fp : List Addr) (Q : VK) (a : Addr) (g : Nat) : Protocol := fun n s₀ v s1 kap => ∃ b : Bool, v = .bool b ∧ s1.heap.IsGen a g ∧ s1.heap.NoLimit ∧ AllBare s1.gens ∧ (b = true → YFin X H s fp Q true s1) ∧
  (b = false → ∀ s'' : Shared, s''.heap = s1.heap → s''.os = s1.os → AllBare s''.gens → kap (.send .none) s'')
def YRet (X : Cx) (H : Hp) (s : Shared) (fp : List Addr) (Q : VK) : GenEnd := fun n s₀ r s1 => ((r = .ok (.ret .none) ∨ r = .ok .next) ∧ YFin X H s fp Q false s1) ∨ ∃ e, r = .error e ∧ False
/-- ahead of turn i -/
def YLoop (X : Cx) (A : Around) (H : Hp) (s : Shared) (scope : Scope) (code : Value) (fp : List Addr) (pn : List (Addr × Obj)) (P : Par) (tn : Nat → Heap → Prop) (itd : ItD) (g : D → Ev → Option Ev) (Fe : Ev → Sto → Res D) (M0 : List Addr) (H0 : Hp) (Wx : Value → Option Addr → Hp → Prop) (Q : VK) (i : Nat) (s1 : Shared) : Prop :=
  ∃ (M' : List Addr) (H' : Hp) (σ' : L2.St) (env : Ev) (st : Sto), Inv (gxCx X A s H scope s.heap.objs.size code fp pn) [] σ' H' s1 ∧ tn i s1.heap ∧ (∀ b ∈ fp, H' b = none) ∧ Stp M0 H0 M' H' ∧ EvR X.K P M' H' σ' env ∧ At X.K P M' H' st ∧ i ≤ itd.n ∧ Post X.K P M' H' (DV X.K) Wx (anyS itd g Fe (itd.n - i) i env st) Q
theorem yx_seg {A : Around} {scope : Scope} {code : Value} {fp : List Addr} {pn : List (Addr × Obj)} {P : Par} {tn : Nat → Heap → Prop} {J : It} {itd : ItD} {gt : D → Ev → Option Ev} {Fe : Ev → Sto → Res D} {M0 : List Addr} {H0 : Hp} {Wx : Value → Option Addr → Hp → Prop} {Q : VK} {tg elt iter : Expr} {pos : Pos} {it a : Addr} {g : Nat} {own : List Nat}
    (hh : A.handled = none) (hco : scope.isCoroutine = false) (T : Turn X.prog X.w X.K tg J fp it tn) (hJ : ItOk X.K P M0 H0 itd J) (hpn : ∀ p ∈ pn, p.1 ∉ fp)
    (hgen : ∀ h : Heap, (∀ p ∈ pn, h.get? p.1 = some p.2) → h.IsGen a g)
    (hg : PG (gxCx X A s H scope s.heap.objs.size code fp pn) tg (tP X.K P gt)) (he : PE (gxCx X A s H scope s.heap.objs.size code fp pn) elt (tE X.K P W0 Fe)) :
    ∀ (k i : Nat) (s₀ s1 : Shared), itd.n - i = k → YLoop X A H s scope code fp pn P tn itd gt Fe M0 H0 Wx Q i s1 →
      Seg (model X.prog X.w) A (YRet X H s fp Q) (YYld X H s fp Q a g) k s₀ (.compLoop (.GeneratorExp elt [⟨tg, iter, [], 0⟩] scope pos) 0 (.ref it) .none (gxE X scope s.heap.objs.size code))
        ((model X.prog X.w).den (.compLoop (.GeneratorExp elt [⟨tg, iter, [], 0⟩] scope pos) 0 (.ref it) .none (gxE X scope s.heap.objs.size code))) [] s1 := by
  obtain ⟨Y, hY⟩ : ∃ Y, Y = gxCx X A s H scope s.heap.objs.size code fp pn := ⟨_, rfl⟩
  have stat : ∀ {σ' : L2.St} {H' : Hp} {s' : Shared}, Inv (gxCx X A s H scope s.heap.objs.size code fp pn) [] σ' H' s' → (∀ b ∈ fp, H' b = none) → ∀ b ∈ fp, FpOk (gxCx X A s H scope s.heap.objs.size code fp pn) [] H' b := fun {σ' H' s'} I' hn b hb =>
    ⟨hn b hb, (I'.ok.exf b hb).1, I'.ok.exfs b hb, .inl hb, fun x c e => (I'.ok.exf b hb).2 x c e, fun p hp e => by
      rcases List.mem_append.mp hp with z | z
      · exact hpn p z (by rw [e]; exact hb)
      · cases z⟩
  have pinned : ∀ {ps : List (Addr × Obj)} {σ' : L2.St} {H' : Hp} {s' : Shared}, Inv (gxCx X A s H scope s.heap.objs.size code fp pn) ps σ' H' s' → s'.heap.IsGen a g := fun {ps σ' H' s'} I' => hgen _ fun p hp => (I'.pin p (List.mem_append_left _ hp)).1
  intro k
  induction k with
  | zero =>
    intro i s₀ s1 hk hl
    obtain ⟨M', H', σ', env, st, I, ht, hn, sp, sl, at_, hi, p⟩ := hl
    have hin : i = itd.n := by omega
    subst hin
    show Seg _ A _ _ _ s₀ _ ((compTurn (.GeneratorExp elt [⟨tg, iter, [], 0⟩] scope pos) 0 (.ref it) .none (gxE X scope s.heap.objs.size code)).onRaise (leaving (gxE X scope s.heap.objs.size code))) [] s1
    rw [compTurn_gen, Sem.onRaise_eq_wrap]
    refine seg_bind_wrap (wpAny_standAt ?_)
    rw [Nat.sub_self, anyS] at p
    split at p
    · rename_i hf
      refine seg_bind_wrap ?_
      rw [over_comp]
      refine thnF (T.done (gxCx X A s H scope s.heap.objs.size code fp pn) rfl rfl rfl rfl itd.n [] s1 σ' H' (fun _ _ => False) I (stat I hn) ht ((hJ itd.n M' H' st sp at_).2 (Nat.le_refl _) hf)) fun r s2 ⟨hr, I2⟩ => ?_
      subst hr
      exact seg_end (.ok .next) (.inl ⟨.inr rfl, H', I2.os, I2.bare, I2.base, I2.hok, p _ M' H' (Stp.refl _ _) at_ (dv_bl.mpr rfl)⟩)
    · exact p.elim
  | succ k ih =>
    intro i s₀ s1 hk hl
    obtain ⟨M', H', σ', env, st, I, ht, hn, sp, sl, at_, hi, p⟩ := hl
    have hlt : i < itd.n := by omega
    rw [hk, anyS] at p
    show Seg _ A _ _ _ s₀ _ ((compTurn (.GeneratorExp elt [⟨tg, iter, [], 0⟩] scope pos) 0 (.ref it) .none (gxE X scope s.heap.objs.size code)).onRaise (leaving (gxE X scope s.heap.objs.size code))) [] s1
    rw [compTurn_gen, Sem.onRaise_eq_wrap]
    refine seg_bind_wrap (wpAny_standAt ?_)
    cases e1 : itd.item i st with
    | none => rw [e1] at p; exact p.elim
    | some d =>
    rw [e1] at p
    dsimp only at p
    cases e2 : gt d env with
    | none => rw [e2] at p; exact p.elim
    | some env1 =>
    rw [e2] at p
    dsimp only at p
    obtain ⟨go, yl⟩ := (hJ i M' H' st sp at_).1 d hlt e1
    refine seg_bind_wrap ?_
    rw [over_comp]
    refine thnF (T.item (gxCx X A s H scope s.heap.objs.size code fp pn) rfl rfl rfl rfl i [] s1 σ' H' (fun _ _ => False) I (stat I hn) ht go) fun r s2 ⟨u, hr, h2⟩ => ?_
    subst hr
    refine seg_bind_wrap ?_
    rw [over_comp]
    refine thnF h2 fun _ s3 ⟨x, H3, I3, r3, y3, t3, n3⟩ => ?_
    obtain ⟨M3, sp3, a3, d3⟩ := yl x H3 y3
    have sl3 := sl.mono at_.mok sp3
    have I3' := I3.pinned (stat I3 n3) (T.obj _ _ t3)
    refine seg_bind_wrap ?_
    rw [over_comp]
    refine thnF (hg.run _ s3 σ' H3 x u (fun σ4 H4 => ∃ M4, Stp M3 H3 M4 H4 ∧ At X.K P M4 H4 st ∧ EvR X.K P M4 H4 σ4 env1) I3' r3 ⟨M3, env, st, d, sl3, a3, d3, env1, e2, fun σ4 M4 H4 s4 a4 l4 => ⟨M4, s4, a4, l4⟩⟩) fun _ s4 ⟨σ4, H4, I4, M4, sp4, a4, sl4⟩ => ?_
    refine seg_bind_wrap ?_
    simp only [List.forIn_nil]
    refine wpAny_pure ?_
    simp only [if_true]
    have hy : ∀ v, yieldOut (gxE X scope s.heap.objs.size code) v = yieldValue v := fun v => by simp only [yieldOut]; rw [show (gxE X scope s.heap.objs.size code).scope.isCoroutine = false from hco]; simp only [Bool.false_eq_true, if_false]
    simp only [hy]
    rw [Sem.bind_eq_wrap', Sem.bind_eq_wrap', Sem.wrap_wrap, Sem.wrap_wrap]
    cases e3 : Fe env1 st with
    | exc c d' st' => rw [e3] at p; exact p.elim
    | err => rw [e3] at p; exact p.elim
    | ok b st' =>
    rw [e3] at p
    cases b with
    | bl b =>
      have p4 := Post.step (sp3.trans sp4) p
      refine seg_wrap ?_
      rw [over_comp]
      refine thnF (he.run _ s4 σ4 H4 (fun y H5 => ∃ M5, y = .bl b ∧ Stp M4 H4 M5 H5 ∧ At X.K P M5 H5 st') I4 ⟨M4, env1, st, sl4, a4, ?_⟩) fun y s5 ⟨v, H5, I5, r5, M5, hv, sp5, a5⟩ => ?_
      · rw [e3]
        exact fun v M5 H5 s5 a5 q5 => ⟨M5, dv_bl.mp q5, s5, a5⟩
      · subst hv
        have hyv : y = .bool b := r5
        subst hyv
        have p5 := Post.step sp5 p4
        refine seg_at (seg_yield rfl rfl rfl ⟨b, rfl, pinned I5, I5.nolimit, I5.bare, fun hb => ?_, fun hb s'' h1 h2 h3 => ?_⟩)
        · subst hb
          exact ⟨H5, I5.os, I5.bare, I5.base, I5.hok, p5 _ M5 H5 (Stp.refl _ _) a5 (dv_bl.mpr rfl)⟩
        · subst hb
          have pin' : ∀ b ∈ fp, ∀ o, s3.heap.get? b = some o → s5.heap.get? b = some o ∧ H5 b = none := fun b hb o e =>
            let z := I5.pin (b, o) (List.mem_append_right _ (List.mem_append_right _ (mem_pinsAt hb e)))
            ⟨z.1, z.2.1⟩
          refine seg_again rfl (ih (i + 1) s'' s'' (by omega) ⟨M5, H5, σ4, env1, st', inv_same (I5.unpinned (pins := [])) h1 h2 h3, ?_, fun b hb => ?_, ((sp.trans sp3).trans sp4).trans sp5, sl4.mono a4.mok sp5, a5, by omega, ?_⟩)
          · rw [h1]
            exact T.keep _ _ _ t3 fun b hb o e => (pin' b hb o e).1
          · obtain ⟨o, e, _⟩ := T.obj _ _ t3 b hb
            exact (pin' b hb o e).2
          · rw [show itd.n - (i + 1) = k by omega]
            exact p5
    | _ => exact p.elim
end
section
variable {X : Cx} {P : Par} {W : WX}
/-- from the beginning -/
theorem yx_seg0 {A : Around} {H : Hp} {s : Shared} {scope : Scope} {code : Value} {fp : List Addr} {pn : List (Addr × Obj)} {tn : Nat → Heap → Prop} {J : It} {itd : ItD} {gt : D → Ev → Option Ev} {Fe : Ev → Sto → Res D} {M0 : List Addr} {H0 : Hp} {Wx : Value → Option Addr → Hp → Prop} {Q : VK} {tg elt iter : Expr} {pos : Pos} {it a : Addr} {g : Nat}
    (hh : A.handled = none) (hco : scope.isCoroutine = false) (T : Turn X.prog X.w X.K tg J fp it tn) (hJ : ItOk X.K P M0 H0 itd J) (hpn : ∀ p ∈ pn, p.1 ∉ fp)
    (hgen : ∀ h : Heap, (∀ p ∈ pn, h.get? p.1 = some p.2) → h.IsGen a g)
    (hg : PG (gxCx X A s H scope s.heap.objs.size code fp pn) tg (tP X.K P gt)) (he : PE (gxCx X A s H scope s.heap.objs.size code fp pn) elt (tE X.K P W0 Fe)) {s₀ s1 : Shared} (hl : YLoop X A H s scope code fp pn P tn itd gt Fe M0 H0 Wx Q 0 s1) :
    Seg (model X.prog X.w) A (YRet X H s fp Q) (YYld X H s fp Q a g) itd.n s₀ (.compStart (.GeneratorExp elt [⟨tg, iter, [], 0⟩] scope pos) 0 (.ref it) .none (gxE X scope s.heap.objs.size code))
      ((model X.prog X.w).den (.compStart (.GeneratorExp elt [⟨tg, iter, [], 0⟩] scope pos) 0 (.ref it) .none (gxE X scope s.heap.objs.size code))) [] s1 := by
  have loop := yx_seg (own := []) (iter := iter) (pos := pos) hh hco T hJ hpn hgen hg he itd.n 0 s₀ s1 (Nat.sub_zero _) hl
  have ht : tn 0 s1.heap := let ⟨_, _, _, _, _, _, ht, _⟩ := hl; ht
  show Seg _ A _ _ _ s₀ _ ((compStart (.GeneratorExp elt [⟨tg, iter, [], 0⟩] scope pos) 0 (.ref it) .none (gxE X scope s.heap.objs.size code)).onRaise (leaving (gxE X scope s.heap.objs.size code))) [] s1
  unfold compStart
  rw [Sem.onRaise_eq_wrap]
  show Seg _ A _ _ _ s₀ _ ((ask >>= _).wrap _ _ _ _) [] s1
  refine seg_bind_wrap (wpAny_askSetting ?_)
  split
  · exact seg_again rfl loop
  · first
      | exact seg_bind_wrap (wpAny_rule (seg_bind_wrap (wpAny_standAt (seg_bind_wrap (T.self _ 0 s1 _ _ ht (seg_again rfl loop))))))
      | (refine seg_bind_wrap (wpAny_rule ?_); show Seg _ A _ _ _ s₀ _ ((standAt iter.pos >>= _).wrap _ _ _ _) [] s1; exact seg_bind_wrap (wpAny_standAt (seg_bind_wrap (T.self _ 0 s1 _ _ ht (seg_again rfl loop)))))
/-- all over what has been made -/
theorem yx_any {A : Around} {H : Hp} {s s6 : Shared} {fp : List Addr} {Q : VK} {a : Addr} {g n : Nat} {c : Code} {R : Result → Shared → Prop} (hh : A.handled = none) (hd : A.depth + 5 < recursionLimit)
    (hR : ∀ b s', YFin X H s fp Q b s' → R (.ok (.ret (.bool b))) s') (hg : s6.heap.IsGen a g) (hl : s6.heap.NoLimit) (hb : AllBare s6.gens) (hgs : s6.gens[g]? = some (.fresh c))
    (hseg : ∀ s'' : Shared, s''.heap = s6.heap → s''.os = s6.os → AllBare s''.gens → Seg (model X.prog X.w) A.in1.in1 (YRet X H s fp Q) (YYld X H s fp Q a g) n s'' c ((model X.prog X.w).den c) [] s'') :
    codeAny (model X.prog X.w) A (.builtin "any.loop" ⟨[.ref a], []⟩) R s6 := by
  have fin : ∀ {b : Bool} {s1 : Shared} {gs : GenState}, gs.bare = true → YFin X H s fp Q b s1 → YFin X H s fp Q b (s1.setGen g gs) := fun {b s1 gs} hgb ⟨H', h1, h2, h3, h4, h5⟩ => ⟨H', h1, allBare_setGen h2 hgb, h3, h4, h5⟩
  refine any_loop (fun n s' => s'.heap.IsGen a g ∧ s'.heap.NoLimit ∧ AllBare s'.gens ∧ ∃ gs, s'.gens[g]? = some gs ∧ gs.Goes (model X.prog X.w) A.in1.in1 (YRet X H s fp Q) (YYld X H s fp Q a g) n (.send .none) (s'.setGen g .running)) ?_ n s6 ⟨hg, hl, hb, _, hgs, rfl, hseg _ rfl rfl (allBare_setGen hb rfl)⟩
  rintro n s' ⟨ig, nl, bare, gs, hgs, go⟩
  have hgl : g < s'.gens.size := (Array.getElem?_eq_some_iff.mp hgs).1
  refine wpAny_gsz (n := g + 1) hgl ?_
  refine next_genG (F := fun _ _ s1 => YFin X H s fp Q false s1) (Er := fun _ _ => False) hh nl (by show A.depth < _; omega) ig hgs go (fun v s₁ gs' hgb hv hsz => ?_) (fun s₁ hp h' hk hsz => ?_) fun e s₁ hx => hx.elim
  · obtain ⟨b, rfl, i1, i2, i3, hf, ht⟩ := hv
    have hsz1 : g < s₁.gens.size := by
      have q : (s₁.setGen g gs').gens.size = s₁.gens.size := setGen_size _ _ _
      have hsz' : g + 1 ≤ (s₁.setGen g gs').gens.size := hsz
      omega
    cases b with
    | true => exact .inr (.inl ⟨rfl, hR _ _ (fin hgb (hf rfl))⟩)
    | false =>
      have k := ht rfl ((s₁.setGen g gs').setGen g .running) rfl rfl (allBare_setGen (allBare_setGen i3 hgb) rfl)
      cases n with
      | zero => exact k.elim
      | succ m => exact .inr (.inr ⟨rfl, m, Nat.lt_succ_self m, i1, i2, allBare_setGen i3 hgb, gs', setGen_at hsz1, k⟩)
  · obtain ⟨H', h1, h2, h3, h4, h5⟩ := hp
    refine .inl ⟨rfl, hR false _ ⟨H', h1, allBare_setGen h2 rfl, ?_, ?_, h5⟩⟩
    · exact h3.trans (Un.kept hk)
    · exact h4.kept hk
/-- all(element for target in iter) -/
theorem q_any {c t : Addr} {scope : Scope} {own : List Nat} {k : Nat} {tg elt iter : Expr} {p pos gpos : Pos} {Fi : Ev → Sto → Res ItD} {gt : D → Ev → Option Ev} {Fe : Ev → Sto → Res D}
    (hr : Room (k + 2) X.A) (hgd : X.A.guards = some []) (hgl : Gl X "any") (hm : X.mg "any" = none) (hbt : bootBuiltins "any" = some (.builtin "any")) (TB : LamX.TabB X.base X.mg c t) (hcode : X.env.code = .ref c) (hmT : (t, X.env.qual ++ "<genexpr>") ∈ P.T) (hu : ∀ p ∈ P.T, p.1 = t → p.2 = X.env.qual ++ "<genexpr>")
    (L : GnS X.N X.env.scope scope own) (hi : PI X tg iter (tI X.K P W Fi)) (hg : ∀ (A : Around) (s : Shared) (H : Hp) (code : Value) (fp : List Addr) (pn : List (Addr × Obj)), Room k (A.deeper (gxE X scope s.heap.objs.size code)) → A.guards = some [] → PG (gxCx X A s H scope s.heap.objs.size code fp pn) tg (tP X.K P gt))
    (he : ∀ (A : Around) (s : Shared) (H : Hp) (code : Value) (fp : List Addr) (pn : List (Addr × Obj)), Room k (A.deeper (gxE X scope s.heap.objs.size code)) → A.guards = some [] → PE (gxCx X A s H scope s.heap.objs.size code fp pn) elt (tE X.K P W0 Fe))
    (hs : ∀ v, genFold iter X.env v = pure v) (hes : starEach [.GeneratorExp elt [⟨tg, iter, [], 0⟩] scope gpos] X.env = (false, eval (.GeneratorExp elt [⟨tg, iter, [], 0⟩] scope gpos) X.env) :: starEach [] X.env) :
    PE X (.Call (.Name "any" p) [.GeneratorExp elt [⟨tg, iter, [], 0⟩] scope gpos] [] pos) (tE X.K P W fun env st => (Fi env st).bind fun it s1 => anyS it gt Fe it.n 0 (wipeE env own) s1) := by
  refine ⟨fun pins s σ H Q I h => ?_⟩
  obtain ⟨M, env, st, sl, at_, pp⟩ := h
  refine wpAny_Call_Name_kw (ld_blt I hgl hm hbt ?_)
  refine PyProof.Rows.callWith_builtin1 ?_ hes (by rfl)
  rw [hes]
  show wpAny _ _ (spliced ((false, eval (.GeneratorExp elt [⟨tg, iter, [], 0⟩] scope gpos) X.env) :: backTo pos (starEach [] X.env))) _ _ s
  refine Calls.spliced_cons ?_
  refine wpAny_GeneratorExp_make L.co (closure_ok (L.has I.ok)) L.cell L.dot L.kind (by have := hr.dp; omega) ?_ hs
  refine wpAny_mono (hi.run pins s σ H (fun J H1 => ∃ itd M1 st1, At X.K P M1 H1 st1 ∧ EvR X.K P M1 H1 σ env ∧ ItOk X.K P M1 H1 itd J ∧ Post X.K P M1 H1 (DV X.K) (fun c d H => W c d σ H) (anyS itd gt Fe itd.n 0 (wipeE env own) st1) Q) I ?_) (fun xv s1 h1 => wpAny_mono h1 (fun itv s2 h2 => ?_) fun _ _ e => e) fun _ _ e => e
  · exact tG.go sl at_ pp fun J H1 itd M1 st1 s1 a1 sl1 r1 p1 => ⟨itd, M1, st1, a1, sl1, r1, p1⟩
  obtain ⟨it, fp, tn, J, H1, rfl, I1, T, t0, f0, itd, M1, st1, a1, sl1, hJ, p1⟩ := h2
  refine ⟨I1.nolimit, ?_⟩
  refine gen_code I1 TB hcode hmT hu a1.tab fun code H2 s4 I2 hE T2 hfr hkp => ?_
  obtain ⟨bm, ob, e1, e2, e3, e4, e5, e6, e7, e8⟩ := TB.bm
  refine wpAny_builtinsFor (m := X.mg) (by rw [I2.ok.glob]; exact I2.mod.glob.keeps I2.bk) e1 e2 (I2.bk _ _ e5) e6 e7 e8 ?_
  intro h' hns hsb
  refine Calls.spliced_nil ?_
  have hdp := hr.dp
  have hun := hr.un
  have l2 : ∀ b ∈ fp, b < s2.heap.objs.size := fun b hb => let ⟨o, e, _⟩ := T.obj _ _ t0 b hb; Heap.lt_size e
  have l4 : ∀ b ∈ fp, b < s4.heap.objs.size := fun b hb => let ⟨o, e, _⟩ := T.obj _ _ t0 b hb; Heap.lt_size (hkp b o (f0 b hb).1 e)
  have n2 : ∀ b ∈ fp, H2 b = none := fun b hb => hfr b (l2 b hb) (f0 b hb).1
  have f2 : ∀ b ∈ fp, FpOk X pins H2 b := fun b hb => ⟨n2 b hb, (f0 b hb).2⟩
  have t4 : tn 0 s4.heap := T.keep _ _ _ t0 fun b hb o e => hkp b o (f0 b hb).1 e
  have hsz : h'.objs.size = s4.heap.objs.size + 1 := by rw [hsb.1, Heap.size_push]
  have keep' : ∀ b o, s4.heap.get? b = some o → h'.get? b = some o := fun b o e => hsb.extBut b o (Nat.ne_of_lt (Heap.lt_size e)) (Heap.get?_push_of_some _ e)
  obtain ⟨go, hgo⟩ : ∃ go : Obj, go = { cls := .type "generator", data := .fields #[.int s4.gens.size 0, .str "<genexpr>" (s4.toks + 1), .str (X.env.qual ++ "<genexpr>") (s4.toks + 1 + 1)] } := ⟨_, rfl⟩
  have hpush : (h'.push go).get? h'.objs.size = some go := by rw [hgo]; exact Heap.get?_push_size _ rfl
  have keep5 : ∀ b o, s4.heap.get? b = some o → (h'.push go).get? b = some o := fun b o e => Heap.get?_push_of_some _ (keep' b o e)
  have hgen : ∀ h : Heap, (∀ p ∈ [(h'.objs.size, go)], h.get? p.1 = some p.2) → h.IsGen h'.objs.size s4.gens.size := fun h hp => by
    have z := hp (h'.objs.size, go) (List.mem_singleton.mpr rfl)
    subst hgo
    exact ⟨_, _, _, z, rfl, rfl, rfl⟩
  rw [← hgo]
  have hfpn : ∀ p ∈ [(h'.objs.size, go)], p.1 ∉ fp := fun p hp hb => by
    rw [List.mem_singleton.mp hp] at hb
    have := l4 _ hb
    have h9 : (h'.objs.size : Nat) < s4.heap.objs.size := this
    omega
  have sp2 : Stp M1 H1 M1 H2 := Stp.ext hE
  have p2 := Post.step sp2 p1
  have a2 : At X.K P M1 H2 st1 := a1.ext hE T2
  have sl2 : EvR X.K P M1 H2 σ env := sl1.mono a1.mok sp2
  have hrk : Room (k + 1) X.A.in1.in1 := ⟨hr.hd, by show X.A.depth + 3 * (k + 1) + 5 < _; omega, by show X.A.units + 1 + 1 + 16 * (k + 1) + 200 < _; omega⟩
  refine call_function_tree F.kind_any F.plain_any F.entry_any (F.args_any1 _) ?_
  unfold Builtin.«any»
  refine wpAny_bind (m := oneArg "any" _) (wpAny_pure ?_)
  refine wpAny_bind (wpAny_pyIter_gen (g := s4.gens.size) (hgen _ fun p hp => by rw [List.mem_singleton.mp hp]; exact hpush) ?_)
  refine wpAny_pure ⟨plainId_quiet F.plain_any_loop _, yx_any (X := X) (A := X.A) (H := H2) (s := s4) (fp := fp) (Q := Q) (g := s4.gens.size) (n := itd.n) (c := .compStart (.GeneratorExp elt [⟨tg, iter, [], 0⟩] scope gpos) 0 (.ref it) .none (gxE X scope s4.heap.objs.size code)) hr.hd (by omega) (fun b s' hf => ?_) (hgen _ fun p hp => by rw [List.mem_singleton.mp hp]; exact hpush) (I2.nolimit.keeps keep5) (AllBare.push I2.bare rfl) (Array.getElem?_push_size ..) fun s'' h1 h2 h3 => ?_⟩
  · obtain ⟨H', g1, g2, g3, g4, g5⟩ := hf
    exact ⟨.bl b, H', I2.call' (ch := fp) g1 g3 g4 g2 fun b hb => ⟨(f2 b hb).2.2.2.1, (f2 b hb).2.1, (f2 b hb).2.2.2.2.1, (f2 b hb).2.2.2.2.2⟩, rfl, g5⟩
  · have k5 : ∀ b o, s4.heap.get? b = some o → s''.heap.get? b = some o := fun b o e => by rw [h1]; exact keep5 b o e
    have hns5 : s''.heap.Ns s4.heap.objs.size (fun y => if y = (".0" : Str) then some (.ref it) else none) := by
      rw [h1]
      exact hns.push _
    have I5 := gx_start (A := X.A.in1.in1) (s5 := s'') (code := code) (fp := fp) (pn := [(h'.objs.size, go)]) (own := own) I2 L hr.hd I2.ok.frames (fun b hb => ⟨f2 b hb, l4 b hb⟩) hns5 k5 h2 h3 fun p hp => by
      rw [List.mem_singleton.mp hp]
      refine ⟨by rw [h1]; exact hpush, by show s4.heap.objs.size < h'.objs.size; omega, fun v q => ?_⟩
      rw [hgo] at q
      cases q
    refine yx_seg0 (A := X.A.in1.in1) (H := H2) (s := s4) (code := code) (J := J) (tn := tn) (itd := itd) (M0 := M1) (H0 := H1) hr.hd L.co T hJ hfpn hgen (hg _ _ _ _ _ _ (hrk.deeper _) hgd) (he _ _ _ _ _ _ (hrk.deeper _) hgd) ⟨M1, H2, _, wipeE env own, st1, I5, T.keep _ _ _ t4 fun b _ o e => k5 b o e, n2, sp2, sl2.wipe own, a2, Nat.zero_le _, by rw [Nat.sub_zero]; exact p2⟩
end
end Q
end

section
set_option Elab.async false
set_option linter.all false
set_option maxRecDepth 100000
set_option maxHeartbeats 1000000
set_option autoImplicit false
/-! name op= value, for ints. -/
namespace Q
open PySem PySem.Spec PyProof.Rows L2
section
variable {X : Cx} {P : Par} {W : WX}
theorem ia_add : OpR X (inplaceOp .Add) (rD2 X.K P (int2 fun i j => some (i + j))) := int20_ok (opI0 fun _ _ _ _ _ _ _ q => PySem.P.iadd_int q)
theorem ia_sub : OpR X (inplaceOp .Sub) (rD2 X.K P (int2 fun i j => some (i - j))) := int20_ok (opI0 fun _ _ _ _ _ _ _ q => PySem.P.isub_int q)
theorem ia_mul : OpR X (inplaceOp .Mult) (rD2 X.K P (int2 mulI)) := int2_ok (C := CMulW) (opI fun _ _ _ _ _ _ _ hc q => PyProof.Rows.imul_int q hc.ok) fun i j k h => by
  unfold mulI at h
  split at h
  · exact ⟨by assumption, (Option.some.inj h).symm⟩
  · cases h
theorem ia_fdiv : OpR X (inplaceOp .FloorDiv) (rD2 X.K P (int2 fdivI)) := int2_ok (C := fun i j => CDivN i j ∨ CDivW i j) (g := fun i j => i.fdiv j) (opI fun i j _ _ _ _ _ hc q => by
    rcases hc with hc | hc
    · exact ifloordiv_int hc.1 q (.inl (PyProof.noPylong_small hc.2))
    · exact ifloordiv_int (by have := hc.1; omega) q (.inl (PyProof.noPylong_of_log2 hc.2))) fun i j k h => by
  unfold fdivI at h
  split at h
  · exact ⟨.inl (by assumption), (Option.some.inj h).symm⟩
  · split at h
    · exact ⟨.inr (by assumption), (Option.some.inj h).symm⟩
    · cases h
/-- name op= e -/
theorem q_aug {i : Nat} {x : Str} {e : Expr} {op : Operator} {pos pos' : Pos} {Fe : Ev → Sto → Res D} {g : D → D → Sto → OD} (hN : X.N.Nodup) (hi : X.N[i]? = some x) (hx : Loc X.env.scope x) (hf : X.fn x = true ∨ X.env.scope.names.lookup x = some .local) (ho : OpR X (inplaceOp op) (rD2 X.K P g)) (he : PE X e (tE X.K P W Fe)) :
    PS X (.AugAssign (.Name x pos') op e pos) (tS X.K P W fun env st => (vGet i env st).then env fun a s1 => (Fe env s1).then env fun b s2 => (ofO (g a b s2)).then env fun d s3 => .nx (env.set i (some d)) s3) := by
  refine ⟨fun pins s σ H De I h => (ps_aug hN hi hx he (ti := rD2 X.K P g) ho hf).run pins s σ H De I ?_⟩
  obtain ⟨M, env, st, sl, at_, p⟩ := h
  have p : PostS X.K P W M H ((vGet i env st).then env fun a s1 => (Fe env s1).then env fun b s2 => (ofO (g a b s2)).then env fun d s3 => .nx (env.set i (some d)) s3) De := p
  unfold vGet at p
  split at p
  · exact p.elim
  · rename_i a ne n
    obtain ⟨v, h1, h2⟩ := sl.2 i a n
    have h3 : DV X.K M H a v := by
      unfold DVx at h2
      split at h2
      · exact (ne _ rfl).elim
      · exact h2
    refine ⟨v, h1, show tG _ _ _ _ _ _ _ _ from tG.goS sl at_ p fun y H1 b M1 st1 s1 a1 sl1 r1 p1 => ?_⟩
    refine ⟨M1, st1, a, b, a1, h3.mono at_.mok s1, r1, ?_⟩
    cases e : g a b st1 with
    | none => rw [e] at p1; exact p1.elim
    | some r =>
      obtain ⟨d, st2⟩ := r
      rw [e] at p1
      exact ⟨d, st2, rfl, fun z M2 H2 s2 a2 r2 => p1 _ M2 H2 s2 a2 ((sl1.mono a1.mok s2).set r2)⟩
  · exact p.elim
end
end Q
end

section
set_option Elab.async false
set_option linter.all false
set_option maxRecDepth 100000
set_option maxHeartbeats 1000000
set_option autoImplicit false
/-! A small syntax, and what it does. -/
namespace Q
open PySem PySem.Spec PyProof.Rows L2
inductive Op where | add | sub | mul | fdiv | mod | pow | shl | shr | band | bor | bxor
  deriving DecidableEq
inductive Cm where | eq | ne | lt | le | gt | ge | is | isNot | isin | notin
  deriving DecidableEq
inductive Bf where | len | int | abs | gcd | list | tuple | max2 | min2 | repr | str | sum
  deriving DecidableEq
inductive Mt where | append | pop
  deriving DecidableEq
mutual
inductive Tg where | nm (i : Nat) | tp (l : TgL)
inductive TgL where | nil | cons (t : Tg) (l : TgL)
end
mutual
inductive E where
  | var (i : Nat) | non | bl (b : Bool) | int (i : Int) | str (x : Str)
  | op (o : Op) (a b : E) | cmp (o : Cm) (a b : E) | chain (o p : Cm) (a b c : E)
  | and (a b : E) | or (a b : E) | not (a : E) | neg (a : E) | ite (c a b : E)
  | tup (es : EL) | lst (es : EL) | ix (a b : E) | sl (a : E) (lo hi : OE) | rev (a : E)
  | blt (f : Bf) (es : EL) | isi (a : E) (t : Ty) | call (f : Nat) (es : EL) | callK (f n : Nat) (ix : List Nat) (es ks : EL)
  | mt (m : Mt) (o : E) (es : EL) | get2 (o k x : E) | dict (ps : PL)
  | lc (it : IT) (tg : Tg) (t : OE) (e : E) (vs : List Nat)
  | all (it : IT) (tg : Tg) (e : E) (vs : List Nat) | sum (it : IT) (tg : Tg) (e : E) (vs : List Nat) | any (it : IT) (tg : Tg) (e : E) (vs : List Nat) | glb (x : Str) (d : D)
  | lam (h : Nat) (e : E) | thunk | thing (i : Nat) (f : Str) | isE (i c : Nat) | tupS (e : E) (es : EL) | bitl (e : E)
inductive EL where | nil | cons (e : E) (es : EL)
inductive PL where | nil | cons (k v : E) (r : PL)
inductive OE where | none | some (e : E)
inductive IT where | val (e : E) | r1 (a : E) | r2 (a b : E) | r3 (a b c : E) | rev1 (a : E) | enum (a : E)
end
mutual
inductive S where
  | expr (e : E) | ret (e : E) | retN | set (i : Nat) (e : E) | asg (t : Tg) (e : E) | par2 (i j : Nat) (a b : E) | par3 (i j l : Nat) (a b c : E)
  | aug (i : Nat) (o : Op) (e : E) | put (o i v : E) | ite (c : E) (a b : SL) | for (t : Tg) (it : IT) (b : SL) | while (c : E) (b : SL) | brk | cont | pass | raise (c : Nat) (e : E) | tr (b : SL) (hs : HL)
inductive SL where | nil | cons (s : S) (r : SL)
inductive HL where | nil | cons (cs : List Nat) (i : Option Nat) (su : SL) (r : HL)
end

/-- what an evaluation leans on -/
structure Ctx where
  ft : Nat → List D → Sto → Res D
  hf : Nat → (Sto → Res D) → Sto → Res D
  th : Sto → Res D
  fuel : Nat
  sub : Nat → Nat → Bool
  fn : Nat → Str
  ex : Option (Nat × D)
def opD : Op → D → D → Sto → OD
  | .add => addD | .sub => subD | .mul => mul2D | .fdiv => int2 fdivI | .mod => int2 modI | .pow => int2 powI | .shl => int2 shlI | .shr => int2 shrI | .band => int2 fun i j => some (Builtin.bitAnd i j) | .bor => int2 fun i j => some (Builtin.bitOr i j) | .bxor => int2 fun i j => some (Builtin.bitXor i j)
def cmD : Cm → D → D → Sto → OD
  | .eq => eqD | .ne => neD | .lt => ltD | .le => leD | .gt => gtD | .ge => geD | .is => isD | .isNot => negB isD | .isin => inD | .notin => negB inD
def bfD : Bf → List D → Sto → OD
  | .len => lenD | .int => intD | .abs => absD | .gcd => gcdD | .list => listD | .tuple => tupleD | .max2 => maxD | .min2 => minD | .repr => reprD | .str => strD | .sum => sumD
def augD : Op → D → D → Sto → OD
  | .add => int2 fun i j => some (i + j) | .sub => int2 fun i j => some (i - j) | .mul => int2 mulI | .fdiv => int2 fdivI | _ => fun _ _ _ => none
def mtD : Mt → D → List D → Sto → OD
  | .append => appD | .pop => popD
mutual
def gT : Tg → D → Ev → Option Ev
  | .nm i => gNm i
  | .tp l => gTp (gTs l) (lT l)
def gTs : TgL → List D → Ev → Option Ev
  | .nil => gsNil
  | .cons t l => gsCons (gT t) (gTs l)
def lT : TgL → Nat
  | .nil => 0
  | .cons _ l => lT l + 1
end
def thingR (C : Ctx) (i : Nat) (f : Str) : Ev → Sto → Res D := match C.ex with
  | some (c, d) => thingF i (decide (f = C.fn c)) d
  | none => fun _ _ => .err
def isER (C : Ctx) (i c : Nat) : Ev → Sto → Res D := match C.ex with
  | some (c0, _) => isEF i (C.sub c0 c)
  | none => fun _ _ => .err
mutual
def evE (C : Ctx) : E → Ev → Sto → Res D
  | .var i => vGet i
  | .non => fun _ st => .ok .non st
  | .bl b => fun _ st => .ok (.bl b) st
  | .int i => fun _ st => .ok (.int i) st
  | .str x => fun _ st => .ok (.str x) st
  | .op o a b => fun env st => (evE C a env st).bind fun x s1 => (evE C b env s1).bind fun y s2 => ofO (opD o x y s2)
  | .cmp o a b => fun env st => (evE C a env st).bind fun x s1 => (evE C b env s1).bind fun y s2 => ofO (cmD o x y s2)
  | .chain o p a b c => fChain (cmD o) (cmD p) (evE C a) (evE C b) (evE C c)
  | .and a b => fAnd (evE C a) (evE C b)
  | .or a b => fOr (evE C a) (evE C b)
  | .not a => fNot (evE C a)
  | .neg a => fun env st => (evE C a env st).bind fun x s1 => ofO (negD x s1)
  | .ite c a b => fIf (evT C c) (evE C a) (evE C b)
  | .tup es => fun env st => (evL C es env st).bind fun ds s1 => ofO (mkTup ds s1)
  | .lst es => fun env st => (evL C es env st).bind fun ds s1 => ofO (mkLst ds s1)
  | .ix a b => fun env st => (evE C a env st).bind fun x s1 => (evE C b env s1).bind fun y s2 => ofO (ixD x y s2)
  | .sl a lo hi => fun env st => (evE C a env st).bind fun d s1 => (evO C lo env s1).bind fun l s2 => (evO C hi env s2).bind fun u s3 => ofO (slD d l u s3)
  | .rev a => fun env st => (evE C a env st).bind fun d s1 => ofO (rev2D d s1)
  | .blt f es => fun env st => (evL C es env st).bind fun ds s1 => ofO (bfD f ds s1)
  | .isi a t => fun env st => (evE C a env st).bind fun d s1 => ofO (isiD [t] d s1)
  | .call f es => fun env st => (evL C es env st).bind (C.ft f)
  | .callK f n ix es ks => fun env st => (evL C es env st).bind fun ds s1 => (evL C ks env s1).bind fun ws s2 => if ds.length = n then C.ft f (pick ix (ds ++ ws)) s2 else .err
  | .mt m o es => fMt (evE C o) (evL C es) (mtD m)
  | .get2 o k x => getF (evE C o) (evE C k) (evE C x)
  | .dict .nil => fun _ st => .ok (.loc st.length) (st ++ [.dK []])
  | .dict (.cons k v r) => dispF ((evE C k, evE C v) :: evP C r)
  | .lc it tg t e vs => lcF (evI C it) (gT tg) (evOT C t) (evE C e) vs
  | .all it tg e vs => fun env st => (evI C it env st).bind fun it s1 => allS it (gT tg) (evE C e) it.n 0 (wipeE env vs) s1
  | .sum it tg e vs => fun env st => (evI C it env st).bind fun it s1 => sumS it (gT tg) (evE C e) it.n 0 0 (wipeE env vs) s1
  | .any it tg e vs => fun env st => (evI C it env st).bind fun it s1 => anyS it (gT tg) (evE C e) it.n 0 (wipeE env vs) s1
  | .glb _ d => fun _ st => .ok d st
  | .lam h e => fun env st => C.hf h (fun s => evE C e env s) st
  | .thunk => thF C.th
  | .thing i f => thingR C i f
  | .isE i c => isER C i c
  | .tupS e es => fStar (evE C e) (evL C es)
  | .bitl e => fun env st => (evE C e env st).bind fun d s1 => ofO (bitlD d s1)
def evT (C : Ctx) : E → Ev → Sto → Res Bool
  | .cmp o a b => fBl fun env st => (evE C a env st).bind fun x s1 => (evE C b env s1).bind fun y s2 => ofO (cmD o x y s2)
  | .chain o p a b c => fBl (fChain (cmD o) (cmD p) (evE C a) (evE C b) (evE C c))
  | .and a b => gAnd (evT C a) (evT C b)
  | .or a b => gOr (evT C a) (evT C b)
  | .not a => gNot (evT C a)
  | .ite c a b => gIf (evT C c) (evT C a) (evT C b)
  | .var i => fTru (vGet i)
  | .bl b => fTru fun _ st => .ok (.bl b) st
  | .call f es => fTru fun env st => (evL C es env st).bind (C.ft f)
  | .isi a t => fTru fun env st => (evE C a env st).bind fun d s1 => ofO (isiD [t] d s1)
  | .all it tg e vs => fTru fun env st => (evI C it env st).bind fun it s1 => allS it (gT tg) (evE C e) it.n 0 (wipeE env vs) s1
  | .any it tg e vs => fTru fun env st => (evI C it env st).bind fun it s1 => anyS it (gT tg) (evE C e) it.n 0 (wipeE env vs) s1
  | .ix a b => fTru fun env st => (evE C a env st).bind fun x s1 => (evE C b env s1).bind fun y s2 => ofO (ixD x y s2)
  | .op o a b => fTru fun env st => (evE C a env st).bind fun x s1 => (evE C b env s1).bind fun y s2 => ofO (opD o x y s2)
  | .blt f es => fTru fun env st => (evL C es env st).bind fun ds s1 => ofO (bfD f ds s1)
  | .callK f n ix es ks => fTru fun env st => (evL C es env st).bind fun ds s1 => (evL C ks env s1).bind fun ws s2 => if ds.length = n then C.ft f (pick ix (ds ++ ws)) s2 else .err
  | _ => fun _ _ => .err
def evL (C : Ctx) : EL → Ev → Sto → Res (List D)
  | .nil => fun _ st => .ok [] st
  | .cons e es => fun env st => (evE C e env st).bind fun d s1 => (evL C es env s1).bind fun ds s2 => .ok (d :: ds) s2
def evP (C : Ctx) : PL → List (FF × FF)
  | .nil => []
  | .cons k v r => (evE C k, evE C v) :: evP C r
def evO (C : Ctx) : OE → Ev → Sto → Res (Option Int)
  | .none => fun _ st => .ok none st
  | .some e => fun env st => (evE C e env st).bind partD
def evOT (C : Ctx) : OE → Ev → Sto → Res Bool
  | .none => fun _ st => .ok true st
  | .some e => evT C e
def evI (C : Ctx) : IT → Ev → Sto → Res ItD
  | .val e => fun env st => (evE C e env st).bind itD
  | .r1 a => fun env st => ((evE C a env st).bind fun d s1 => .ok [d] s1).bind rng1
  | .r2 a b => fun env st => ((evE C a env st).bind fun d s1 => ((evE C b env s1).bind fun e s2 => .ok [e] s2).bind fun ds s2 => .ok (d :: ds) s2).bind rng2
  | .r3 a b c => fun env st => ((evE C a env st).bind fun d s1 => ((evE C b env s1).bind fun e s2 => ((evE C c env s2).bind fun f s3 => .ok [f] s3).bind fun ds s3 => .ok (e :: ds) s3).bind fun ds s2 => .ok (d :: ds) s2).bind rng3
  | .rev1 a => fun env st => (evE C a env st).bind rev1
  | .enum a => fun env st => ((evE C a env st).bind fun d s1 => .ok [d] s1).bind enD
end
def evPar : List D → List Nat → Ev → Option Ev
  | [], [], env => some env
  | d :: ds, i :: is, env => evPar ds is (env.set i (some d))
  | _, _, _ => none
mutual
def evS (C : Ctx) : S → Ev → Sto → SR
  | .expr e => fun env st => (evE C e env st).then env fun _ s1 => .nx env s1
  | .ret e => fun env st => (evE C e env st).then env fun d s1 => .rt d s1
  | .retN => fun env st => .rt .non st
  | .set i e => fun env st => (evE C e env st).then env fun d s1 => .nx (env.set i (some d)) s1
  | .asg t e => fun env st => (evE C e env st).then env fun d s1 => ofEv (gT t d env) s1
  | .par2 i j a b => fun env st => (evE C a env st).then env fun x s1 => (evE C b env s1).then env fun y s2 => .nx ((env.set i (some x)).set j (some y)) s2
  | .par3 i j l a b c => fun env st => (evE C a env st).then env fun x s1 => (evE C b env s1).then env fun y s2 => (evE C c env s2).then env fun z s3 => .nx (((env.set i (some x)).set j (some y)).set l (some z)) s3
  | .aug i o e => fun env st => (vGet i env st).then env fun a s1 => (evE C e env s1).then env fun b s2 => (ofO (augD o a b s2)).then env fun d s3 => .nx (env.set i (some d)) s3
  | .put o i v => fun env st => (evE C v env st).then env fun v s1 => (evE C o env s1).then env fun o s2 => (evE C i env s2).then env fun i s3 => ofSt (setD o i v s3) env
  | .ite c a b => fun env st => (evT C c env st).then env fun k s1 => if k = true then evSs C a env s1 else evSs C b env s1
  | .for t it b => fun env st => (evI C it env st).then env fun it s1 => loopS it (gT t) (evSs C b) it.n 0 env s1
  | .while c b => whileS (evT C c) (evSs C b) C.fuel
  | .brk => fun env st => .bk env st
  | .cont => fun env st => .ct env st
  | .pass => fun env st => .nx env st
  | .raise c e => fun env st => (evE C e env st).then env fun d s1 => .exc c d env s1
  | .tr b hs => tryF C.sub (evSs C b) (evH C hs)
def evSs (C : Ctx) : SL → Ev → Sto → SR
  | .nil => fun env st => .nx env st
  | .cons s r => fun env st => (evS C s env st).bind (evSs C r)
def evH (C : Ctx) : HL → List Hd
  | .nil => []
  | .cons cs i su r => (cs, i, fun c d => evSs { C with ex := some (c, d), th := fun _ => .err } su) :: evH C r
end
end Q
end

section
set_option Elab.async false
set_option linter.all false
set_option maxRecDepth 100000
set_option maxHeartbeats 1000000
set_option autoImplicit false
/-! When a piece of the text is what a piece of syntax says. -/
namespace Q
open PySem PySem.Spec PyProof.Rows L2
structure SG where
  fn : List (Nat × Str × Nat)
  kw : List (Nat × Nat × List Str × List Nat)
  cls : List (Nat × Str × Str)
  ho : List Str
  blt : List Str
  gl : List (Str × D)
structure Gam where
  N : List Str
  sc : Scope
  fnAll : Bool
  calm : Bool
  top : Bool
  lam : Option Str
  rm : Nat
  th : Option Str
  ex : Option (Nat × Str)

def isStar : Expr → Bool
  | .Starred .. => true
  | _ => false
def isTup : Expr → Bool
  | .Tuple .. => true
  | _ => false
def isComp : Expr → Bool
  | .ListComp .. => true | .SetComp .. => true | .DictComp .. => true
  | _ => false
def isSetE : Expr → Bool
  | .Set .. => true
  | _ => false
def isSl : Expr → Bool
  | .Slice .. => true
  | _ => false
/-- what may be super() -/
def isCall0 : Expr → Bool
  | .Call (.Name _ _) [] [] _ => true
  | _ => false
/-- whose truth is its value's -/
def isPlainT : Expr → Bool
  | .UnaryOp .Not _ _ => false | .BoolOp .. => false | .IfExp .. => false | .Compare .. => false
  | _ => true
def lk (Γ : Gam) (x : Str) : Option NameKind := Γ.sc.names.lookup x
def visB (Γ : Gam) (x : Str) : Bool := lk Γ x == some .local || lk Γ x == some .cell || lk Γ x == some .free
def locB (Γ : Gam) (x : Str) : Bool := (lk Γ x == some .local || lk Γ x == some .cell) && (Γ.fnAll || lk Γ x == some .local)
def glB (Γ : Gam) (x : Str) : Bool := lk Γ x == some .globalImplicit
def okN (x : Str) : Bool := !(x == ("__debug__" : Str)) && !(x == ("__classdict__" : Str))
def slot (Γ : Gam) (i : Nat) (x : Str) : Bool := Γ.N[i]? == some x
def opK : Op → Operator
  | .add => .Add | .sub => .Sub | .mul => .Mult | .fdiv => .FloorDiv | .mod => .Mod | .pow => .Pow | .shl => .LShift | .shr => .RShift | .band => .BitAnd | .bor => .BitOr | .bxor => .BitXor
def cmK : Cm → CmpOp
  | .eq => .Eq | .ne => .NotEq | .lt => .Lt | .le => .LtE | .gt => .Gt | .ge => .GtE | .is => .Is | .isNot => .IsNot | .isin => .In | .notin => .NotIn
def bfN : Bf → Str
  | .len => "len" | .int => "int" | .abs => "abs" | .gcd => "gcd" | .list => "list" | .tuple => "tuple" | .max2 => "max" | .min2 => "min" | .repr => "repr" | .str => "str" | .sum => "sum"
def mtN : Mt → Str
  | .append => "append" | .pop => "pop"
def mtA : Mt → Nat
  | .append => 1 | .pop => 0
def noArgs : Arguments → Bool
  | ⟨[], [], none, [], [], none, []⟩ => true
  | _ => false
def blkG (Γ : Gam) (scope : Scope) : Gam := { Γ with sc := relS scope Γ.sc, fnAll := false, top := false, lam := none, th := none, ex := none }
def lamG (Γ : Gam) (scope : Scope) : Gam := { Γ with sc := scope, fnAll := false, top := false, lam := none, rm := 0, th := none, ex := none }
def isLst : Expr → Bool
  | .List .. => true
  | _ => false
mutual
/-- equal constants -/
def eqC : D → D → Bool
  | .int i, .int j => i == j
  | .str x, .str y => x == y
  | .tup ds, .tup es => eqCs ds es
  | _, _ => false
def eqCs : List D → List D → Bool
  | [], [] => true
  | d :: ds, e :: es => eqC d e && eqCs ds es
  | _, _ => false
end
mutual
theorem eqC_eq (d e : D) (h : eqC d e = true) : d = e := by
  unfold eqC at h
  split at h
  · rw [beq_iff_eq.mp h]
  · rw [beq_iff_eq.mp h]
  · rw [eqCs_eq _ _ h]
  · cases h
termination_by sizeOf d
theorem eqCs_eq (ds es : List D) (h : eqCs ds es = true) : ds = es := by
  unfold eqCs at h
  split at h
  · rfl
  · rw [Bool.and_eq_true] at h
    rw [eqC_eq _ _ h.1, eqCs_eq _ _ h.2]
  · cases h
termination_by sizeOf ds
end
/-- a generator expression's names: its own at the slots own -/
def gnB (N : List Str) (sc scope : Scope) (own : List Nat) : Bool := decide (scope.kind = .function) && !scope.isCoroutine && decide (scope.names.lookup (".0" : Str) = some NameKind.local) &&
  scope.names.all (fun y => !decide (y.2 = .cell) && (!decide (y.2 = .free) || decide (sc.names.lookup y.1 = some .cell) || decide (sc.names.lookup y.1 = some .free))) &&
  (List.range N.length).all fun i => match N[i]? with
    | some y => !decide (scope.names.lookup y = some .local) || own.contains i
    | none => true
def ownOf (Γ : Gam) (vs : List Nat) : List (Str × Nat) := vs.map fun i => (Γ.N.getD i "", i)
def kwNames : List Keyword → Option (List Str)
  | [] => some []
  | ⟨some x, _, _⟩ :: r => (kwNames r).map (x :: ·)
  | _ => none
mutual
def ckTg (Γ : Gam) : Tg → Expr → Bool
  | .nm i, .Name x _ => slot Γ i x && locB Γ x
  | .tp l, .Tuple xs _ _ => Γ.calm && ckTgs Γ l xs
  | _, _ => false
def ckTgs (Γ : Gam) : TgL → List Expr → Bool
  | .nil, [] => true
  | .cons t l, x :: xs => !isStar x && ckTg Γ t x && ckTgs Γ l xs
  | _, _ => false
end
mutual
def inTg (vs : List Nat) : Tg → Bool
  | .nm i => vs.contains i
  | .tp l => inTgs vs l
def inTgs (vs : List Nat) : TgL → Bool
  | .nil => true
  | .cons t l => inTg vs t && inTgs vs l
end
mutual
def ckE (Q : SG) (Γ : Gam) : E → Expr → Bool
  | .var i, .Name x _ => slot Γ i x && visB Γ x && okN x
  | .non, .Constant .none _ _ => true
  | .bl b, .Constant (.bool c) _ _ => b == c
  | .int i, .Constant (.int j) _ _ => i == j
  | .str x, .Constant (.str y) _ _ => x == y
  | .op o a b, .BinOp x p y _ => opK o == p && ckE Q Γ a x && ckE Q Γ b y
  | .cmp o a b, .Compare x [p] [y] _ => cmK o == p && !isSetE y && ckE Q Γ a x && ckE Q Γ b y
  | .chain o o' a b c, .Compare x [p, p'] [y, z] _ => cmK o == p && cmK o' == p' && !isSetE z && ckE Q Γ a x && ckE Q Γ b y && ckE Q Γ c z
  | .and a b, .BoolOp .And (x :: y :: []) _ => ckE Q Γ a x && ckE Q Γ b y
  | .and a b, .BoolOp .And (x :: y :: z :: r) p => ckE Q Γ a x && ckE Q Γ b (.BoolOp .And (y :: z :: r) p)
  | .or a b, .BoolOp .Or (x :: y :: []) _ => ckE Q Γ a x && ckE Q Γ b y
  | .or a b, .BoolOp .Or (x :: y :: z :: r) p => ckE Q Γ a x && ckE Q Γ b (.BoolOp .Or (y :: z :: r) p)
  | .not a, .UnaryOp .Not x _ => ckE Q Γ a x
  | .neg a, .UnaryOp .USub x _ => ckE Q Γ a x
  | .ite c a b, .IfExp x y z _ => ckE Q Γ c x && ckE Q Γ a y && ckE Q Γ b z
  | .tup es, .Tuple xs _ _ => ckL Q Γ es xs
  | .tupS e es, .Tuple (.Starred x _ :: xs) _ _ => ckE Q Γ e x && ckL Q Γ es xs
  | .lst es, .List xs _ => ckL Q Γ es xs
  | .rev a, .Subscript x (.Slice none none (some (.UnaryOp .USub (.Constant (.int j) _ _) _)) _) _ => j == 1 && ckE Q Γ a x
  | .sl a lo hi, .Subscript x (.Slice l h none _) _ => ckE Q Γ a x && ckO Q Γ lo l && ckO Q Γ hi h
  | .ix a b, .Subscript x y _ => !isSl y && ckE Q Γ a x && ckE Q Γ b y
  | .blt f es, .Call (.Name x _) (y :: ys) [] _ => x == bfN f && glB Γ x && Q.blt.contains x && (Γ.calm || (f != .max2 && f != .min2 && f != .sum)) && ckL Q Γ es (y :: ys)
  | .isi a t, .Call (.Name x _) [y, .Name T _] [] _ => x == ("isinstance" : Str) && glB Γ x && Q.blt.contains x && T == (tyN t : Str) && glB Γ T && Q.blt.contains T && !isStar y && ckE Q Γ a y
  | .bitl e, .Call (.Attribute y nm ap) [] [] cp => nm == ("bit_length" : Str) && !isCall0 y && (ap.endLine == cp.line) && ckE Q Γ e y
  | .call f es, .Call (.Name x _) ys [] _ => Γ.calm && glB Γ x && ((Q.fn.lookup f) == some (x, ys.length)) && ckL Q Γ es ys
  | .callK f n ix es ks, .Call (.Name x _) ys kws _ => Γ.calm && glB Γ x && ((Q.fn.lookup f).map (·.1) == some x) && ((Q.fn.lookup f).map (·.2) == some ix.length) && ix.all (fun i => decide (i < ys.length + kws.length)) && ys.length == n && (match kwNames kws with | some ns => Q.kw.contains (f, n, ns, ix) | none => false) && ckL Q Γ es ys && ckK Q Γ ks kws
  | .mt m o es, .Call (.Attribute y nm ap) ys [] cp => nm == mtN m && ys.length == mtA m && !isCall0 y && (ap.endLine == cp.line) && ckE Q Γ o y && ckL Q Γ es ys
  | .get2 o k d, .Call (.Attribute y nm ap) [u, v] [] cp => nm == ("get" : Str) && !isCall0 y && (ap.endLine == cp.line) && !isStar u && !isStar v && ckE Q Γ o y && ckE Q Γ k u && ckE Q Γ d v
  | .dict ps, .Dict ks vs _ => decide (ks.length ≤ 15) && ckP Q Γ ps ks vs
  | .lc it tg t e vs, .ListComp x [⟨tx, ix, ifs, 0⟩] scope _ => Γ.calm && blkC Γ.N Γ.sc scope (ownOf Γ vs) && !isSetE ix && ckI Q Γ tx it ix && ckTg (blkG Γ scope) tg tx && inTg vs tg && ckT Q (blkG Γ scope) t ifs && ckE Q (blkG Γ scope) e x
  | .lam h e, .Call (.Name x _) [.Lambda ar body scope _] [] _ => Γ.calm && decide (Γ.lam = some "<lambda>") && glB Γ x && (Q.ho[h]? == some x) && LamX.lamSB Γ.sc scope && noArgs ar && ckE Q (lamG Γ scope) e body
  | .all it tg e vs, .Call (.Name x _) [.GeneratorExp y [⟨tx, ix, [], 0⟩] scope _] [] _ => Γ.calm && decide (Γ.lam = some "<genexpr>") && x == ("all" : Str) && glB Γ x && Q.blt.contains x && gnB Γ.N Γ.sc scope vs && !isSetE ix && !isLst ix && ckI Q Γ tx it ix && ckTg (lamG Γ scope) tg tx && inTg vs tg && ckE Q (lamG Γ scope) e y
  | .sum it tg e vs, .Call (.Name x _) [.GeneratorExp y [⟨tx, ix, [], 0⟩] scope _] [] _ => Γ.calm && decide (Γ.lam = some "<genexpr>") && x == ("sum" : Str) && glB Γ x && Q.blt.contains x && gnB Γ.N Γ.sc scope vs && !isSetE ix && !isLst ix && ckI Q Γ tx it ix && ckTg (lamG Γ scope) tg tx && inTg vs tg && ckE Q (lamG Γ scope) e y
  | .any it tg e vs, .Call (.Name x _) [.GeneratorExp y [⟨tx, ix, [], 0⟩] scope _] [] _ => Γ.calm && decide (Γ.lam = some "<genexpr>") && x == ("any" : Str) && glB Γ x && Q.blt.contains x && gnB Γ.N Γ.sc scope vs && !isSetE ix && !isLst ix && ckI Q Γ tx it ix && ckTg (lamG Γ scope) tg tx && inTg vs tg && ckE Q (lamG Γ scope) e y
  | .glb x d, .Name y _ => x == y && glB Γ y && Q.gl.any (fun p => p.1 == y && eqC p.2 d)
  | .thunk, .Call (.Name x _) [] [] _ => Γ.th == some x
  | .thing i f, .Attribute (.Name n _) g _ => (Γ.ex == some (i, n)) && f == g
  | .isE i c, .Call (.Name x _) [.Name n _, .Name t _] [] _ => x == ("isinstance" : Str) && glB Γ x && Q.blt.contains x && (Γ.ex == some (i, n)) && ((Q.cls.lookup c).map (·.1) == some t) && glB Γ t
  | _, _ => false
def ckL (Q : SG) (Γ : Gam) : EL → List Expr → Bool
  | .nil, [] => true
  | .cons e es, x :: xs => !isStar x && ckE Q Γ e x && ckL Q Γ es xs
  | _, _ => false
def ckK (Q : SG) (Γ : Gam) : EL → List Keyword → Bool
  | .nil, [] => true
  | .cons e es, ⟨_, x, _⟩ :: xs => ckE Q Γ e x && ckK Q Γ es xs
  | _, _ => false
def ckP (Q : SG) (Γ : Gam) : PL → List (Option Expr) → List Expr → Bool
  | .nil, [], [] => true
  | .cons k v r, some x :: xs, y :: ys => ckE Q Γ k x && ckE Q Γ v y && ckP Q Γ r xs ys
  | _, _, _ => false
def ckO (Q : SG) (Γ : Gam) : OE → Option Expr → Bool
  | .none, none => true
  | .some e, some x => ckE Q Γ e x
  | _, _ => false
def ckT (Q : SG) (Γ : Gam) : OE → List Expr → Bool
  | .none, [] => true
  | .some e, [x] => ckE Q Γ e x
  | _, _ => false
def ckI (Q : SG) (Γ : Gam) (tg : Expr) : IT → Expr → Bool
  | .r1 a, .Call (.Name x _) [y] [] _ => x == ("range" : Str) && glB Γ x && Q.blt.contains x && !isStar y && ckE Q Γ a y
  | .r2 a b, .Call (.Name x _) [y, z] [] _ => x == ("range" : Str) && glB Γ x && Q.blt.contains x && !isStar y && !isStar z && ckE Q Γ a y && ckE Q Γ b z
  | .r3 a b c, .Call (.Name x _) [y, z, u] [] _ => x == ("range" : Str) && glB Γ x && Q.blt.contains x && !isStar y && !isStar z && !isStar u && ckE Q Γ a y && ckE Q Γ b z && ckE Q Γ c u
  | .rev1 a, .Call (.Name x _) [.Call (.Name y _) [z] [] _] [] _ => x == ("reversed" : Str) && y == ("range" : Str) && glB Γ x && glB Γ y && Q.blt.contains x && Q.blt.contains y && !isStar z && ckE Q Γ a z
  | .enum a, .Call (.Name x _) [y] [] _ => x == ("enumerate" : Str) && glB Γ x && Q.blt.contains x && !isStar y && isTup tg && ckE Q Γ a y
  | .val e, x => ckE Q Γ e x
  | _, _ => false
end
def swNm (Γ : Gam) (l : Nat) : Expr → Option Str
  | .Name id pos => if lk Γ id == some .local && pos.line == l then some id else none
  | _ => none
def swIf (Γ : Gam) (ts vs : List Expr) (ns : List Str) : Option (Option (List Str)) :=
  if (!(ts.length == 2 || ts.length == 3) || vs.length != ts.length || Γ.sc.kind != .function) = true then some none
  else if (vs.any isStar) = true then some none
  else if (ns.length != ts.length || ns.eraseDups.length != ns.length) = true then some none
  else if (vs.all (foldedForSure 8)) = true then some none
  else if (vs.all (constantsAlone 8)) = true then none
  else some (some ns)
/-- the names of a parallel store, if it is one -/
def swP (Γ : Gam) (ts : List Expr) (v : Expr) : Option (Option (List Str)) := match ts, v with
  | [.Tuple ts _ _], .Tuple vs _ _ => swIf Γ ts vs (ts.filterMap (swNm Γ ((ts.head?.map (·.pos.line)).getD 0)))
  | [.Tuple _ _ _], .Name _ _ => some none
  | [.Tuple _ _ _], .Call _ _ _ _ => some none
  | [.Tuple _ _ _], .Subscript _ _ _ => some none
  | [.Tuple _ _ _], .IfExp _ _ _ _ => some none
  | _, _ => none
/-- whether a store of a comprehension swaps -/
def swB (Γ : Gam) (scope : Scope) (vpos : Pos) (t : Str) (tpos : Pos) : Bool := lk Γ t == some .local && tpos.line == vpos.line && !(scope.names.any fun (n, k) => n == t && (k == .local || k == .cell))
def suG (Γ : Gam) (ex : Option (Nat × Str)) : Gam := { Γ with calm := false, top := false, lam := none, th := none, ex := ex }
def namesOf : List Expr → Option (List (Str × Pos))
  | [] => some []
  | .Name x p :: r => (namesOf r).map ((x, p) :: ·)
  | _ => none
def ckCls (Q : SG) (Γ : Gam) (cs : List Nat) : Expr → Bool
  | .Name x _ => match cs with
    | [c] => glB Γ x && okN x && ((Q.cls.lookup c).map (·.1) == some x)
    | _ => false
  | .Tuple xs _ _ => match namesOf xs with
    | some l => decide (2 ≤ l.length) && decide (l.length ≤ 4) && l.length == cs.length && (l.zip cs).all fun p => glB Γ p.1.1 && okN p.1.1 && ((Q.cls.lookup p.2).map (·.1) == some p.1.1)
    | none => false
  | _ => false
mutual
def ckS (Q : SG) (Γ : Gam) : S → Stmt → Bool
  | .expr e, .Expr x _ => !isComp x && ckE Q Γ e x
  | .ret e, .Return (some x) _ => ckE Q Γ e x
  | .retN, .Return none _ => true
  | .set i e, .Assign [.Name x tp] v _ => slot Γ i x && locB Γ x && ckE Q Γ e v && (match v with | .ListComp _ _ _ _ => true | v => !isComp v)
  | .asg t e, .Assign [.Tuple xs k tp] v _ => ckTg Γ t (.Tuple xs k tp) && !isComp v && ckE Q Γ e v && (swP Γ [.Tuple xs k tp] v == some none)
  | .par2 i j a b, .Assign [.Tuple [.Name x px, .Name y py] k tp] (.Tuple [u, v] k2 p2) _ => Γ.calm && slot Γ i x && slot Γ j y && i != j && lk Γ x == some .local && lk Γ y == some .local && !isStar u && !isStar v && ckE Q Γ a u && ckE Q Γ b v && (swP Γ [.Tuple [.Name x px, .Name y py] k tp] (.Tuple [u, v] k2 p2) == some (some [x, y]))
  | .par3 i j l a b c, .Assign [.Tuple [.Name x px, .Name y py, .Name z pz] k tp] (.Tuple [u, v, w] k2 p2) _ => Γ.calm && slot Γ i x && slot Γ j y && slot Γ l z && i != j && i != l && j != l && lk Γ x == some .local && lk Γ y == some .local && lk Γ z == some .local && !isStar u && !isStar v && !isStar w && ckE Q Γ a u && ckE Q Γ b v && ckE Q Γ c w && (swP Γ [.Tuple [.Name x px, .Name y py, .Name z pz] k tp] (.Tuple [u, v, w] k2 p2) == some (some [x, y, z]))
  | .aug i o e, .AugAssign (.Name x _) p y _ => opK o == p && slot Γ i x && locB Γ x && ckE Q Γ e y
  | .put o i v, .Assign [.Subscript x y _] z _ => ckE Q Γ o x && ckE Q Γ i y && ckE Q Γ v z
  | .ite c a b, .If x y z _ => ckE Q Γ c x && ckSs Q Γ a y && ckSs Q Γ b z
  | .for t it b, .For tx ix body [] _ => Γ.calm && !isSetE ix && ckI Q Γ tx it ix && ckTg Γ t tx && ckSs Q Γ b body
  | .while c b, .While x body [] _ => Γ.calm && ckE Q Γ c x && ckSs Q Γ b body
  | .brk, .Break _ => true
  | .cont, .Continue _ => true
  | .pass, .Pass _ => true
  | .raise c e, .Raise (some (.Call (.Name x _) [y] [] _)) none _ => Γ.calm && glB Γ x && ((Q.cls.lookup c).map (·.1) == some x) && !isStar y && ckE Q Γ e y
  | .tr b hs, .Try body (h0 :: hds) [] [] _ => Γ.calm && Γ.top && ckSs Q Γ b body && ckH Q Γ hs (h0 :: hds)
  | _, _ => false
def ckSs (Q : SG) (Γ : Gam) : SL → List Stmt → Bool
  | .nil, [] => true
  | .cons s r, x :: xs => ckS Q Γ s x && ckSs Q Γ r xs
  | _, _ => false
def ckH (Q : SG) (Γ : Gam) : HL → List ExceptHandler → Bool
  | .nil, [] => true
  | .cons cs none su r, .ExceptHandler (some ty) none (b0 :: suite) _ :: hds => ckCls Q Γ cs ty && ckSs Q (suG Γ none) su (b0 :: suite) && ckH Q Γ r hds
  | .cons cs (some i) su r, .ExceptHandler (some ty) (some n) (b0 :: suite) _ :: hds => ckCls Q Γ cs ty && slot Γ i n && (lk Γ n == some .local) && okN n && ckSs Q (suG Γ (some (i, n))) su (b0 :: suite) && ckH Q Γ r hds
  | _, _ => false
end
end Q
end

section
set_option Elab.async false
set_option linter.all false
set_option maxRecDepth 100000
set_option maxHeartbeats 1000000
set_option autoImplicit false
/-! What the checks of shape give. -/
namespace Q
open PySem PySem.Spec PyProof.Rows L2
theorem star_cons {e : Expr} (es : List Expr) (env : Env) (h : isStar e = false) : starEach (e :: es) env = (false, eval e env) :: starEach es env := by
  cases e <;> first
    | rfl
    | cases h
theorem star_all : ∀ {es : List Expr} (env : Env) (pos : Pos), es.all (fun e => !isStar e) = true → (backTo pos (starEach es env)).any (·.1) = false
  | [], _, _, _ => rfl
  | e :: es, env, pos, h => by
    rw [List.all_cons, Bool.and_eq_true, Bool.not_eq_true'] at h
    rw [star_cons es env h.1]
    show (false || (backTo pos (starEach es env)).any (·.1)) = false
    rw [star_all env pos h.2]
    rfl
theorem star_len : ∀ (es : List Expr) (env : Env), (starEach es env).length = es.length
  | [], _ => rfl
  | e :: es, env => by
    have ih := star_len es env
    cases e <;> (show (starEach es env).length + 1 = es.length + 1; rw [ih])
theorem star_few {es : List Expr} (env : Env) (pos : Pos) (h : es.all (fun e => !isStar e) = true) (hl : es.length < 29) : ((backTo pos (starEach es env)).all (fun x => !x.1) && (backToKw pos (keywordEach [] env)).all (fun x => x.1.isSome) && decide (es.length + ([] : List Keyword).length + (if ([] : List Keyword).isEmpty then 0 else 1) < 30)) = true := by
  have h1 := star_all env pos h
  have h2 : (backTo pos (starEach es env)).all (fun x => !x.1) = true := by
    rw [List.all_eq_true]
    intro x hx
    rw [List.any_eq_false] at h1
    simpa using h1 x hx
  rw [h2]
  have h3 : es.length + ([] : List Keyword).length + (if ([] : List Keyword).isEmpty then 0 else 1) < 30 := by
    show es.length + 0 + 0 < 30
    omega
  rw [decide_eq_true h3]
  rfl
theorem no_swap {e : Expr} (t : Option Expr) (l : Nat) (env : Env) (h : isComp e = false) : swapsWith e t l env = pure false := by
  cases e <;> first
    | rfl
    | cases h
theorem no_swap1 {e t : Expr} (l : Nat) (env : Env) (h : isComp e = false) : swapsWithSole [t] e l env = pure false := no_swap _ _ _ h
theorem no_fold {e : Expr} (env : Env) (h : isSetE e = false) (x : Value) : foldedSetIterable e env x = pure x := by
  cases e <;> first
    | rfl
    | cases h
theorem plain_ix {e : Expr} (h : isSl e = false) : PlainIx e := by
  intro o i
  cases e <;> first
    | rfl
    | cases h
theorem attr_base {o : Expr} (m : Str) (env : Env) (w : Sem Value) (h : isCall0 o = false) : attributeBase o m env w = w := by
  unfold attributeBase
  split
  · cases h
  · rfl
theorem plain_t {e : Expr} (env : Env) (h : isPlainT e = true) (whole : Sem Value) : isTrue e env whole = (do let v ← whole; standAt e.pos; holding [v] (truthy v)) := by
  cases e <;> first
    | rfl
    | cases h
    | (rename_i op x p; cases op <;> first | rfl | cases h)
theorem no_mark {o : Cm} {e : Expr} (h : isSetE e = false) : behindInMarks (cmK o) e = false := by
  unfold behindInMarks
  split
  · cases h
  · rfl
theorem tup_of {e : Expr} (h : isTup e = true) : ∃ es k p, e = .Tuple es k p := by
  cases e <;> first
    | exact ⟨_, _, _, rfl⟩
    | cases h
theorem kw_names : ∀ {kws : List Keyword} {ns : List Str} (env : Env) (pos : Pos), kwNames kws = some ns → (backToKw pos (keywordEach kws env)).all (·.1.isSome) = true ∧ (backToKw pos (keywordEach kws env)).filterMap (·.1) = ns ∧ (backToKw pos (keywordEach kws env)).any (·.1.isNone) = false ∧ ns.length = kws.length
  | [], ns, env, pos, h => by cases h; exact ⟨rfl, rfl, rfl, rfl⟩
  | ⟨some x, e, p⟩ :: r, ns, env, pos, h => by
    unfold kwNames at h
    cases hr : kwNames r with
    | none => rw [hr] at h; cases h
    | some l =>
      rw [hr] at h
      cases h
      obtain ⟨h1, h2, h3, h4⟩ := kw_names env pos hr
      refine ⟨?_, ?_, ?_, by simp [h4]⟩
      · show (true && (backToKw pos (keywordEach r env)).all (·.1.isSome)) = true
        rw [h1]; rfl
      · show x :: (backToKw pos (keywordEach r env)).filterMap (·.1) = x :: l
        rw [h2]
      · show (false || (backToKw pos (keywordEach r env)).any (·.1.isNone)) = false
        rw [h3]; rfl
  | ⟨none, e, p⟩ :: r, ns, env, pos, h => by cases h
theorem no_args {a : Arguments} (h : noArgs a = true) : a = ⟨[], [], none, [], [], none, []⟩ := by
  unfold noArgs at h
  split at h
  · rfl
  · cases h
/-- the names of a parallel store -/
theorem sw_ok {Γ : Gam} {ts : List Expr} {v : Expr} {env : Env} {r : Option (List Str)} (hsc : env.scope = Γ.sc) (hk : Γ.sc.kind = .function) (h : swP Γ ts v = some r) : swappedStores ts v env = pure r := by
  have hb : env.blockKind = .function := by unfold Env.blockKind; rw [hsc, hk]; rfl
  have hlk : ∀ x, env.kindOf x = lk Γ x := fun x => by unfold Env.kindOf lk; rw [hsc]
  unfold swP at h
  split at h
  · rename_i ts k p vs k2 p2
    unfold swappedStores
    have h1 : (env.blockKind != .function) = (Γ.sc.kind != .function) := by rw [hb, hk]
    simp only [pure_bind, h1, hlk]
    generalize hns : ts.filterMap (swNm Γ ((ts.head?.map (·.pos.line)).getD 0)) = ns at h
    have hns' : ts.filterMap (fun | .Name id pos => if (lk Γ id == some .local && pos.line == (ts.head?.map (·.pos.line)).getD 0) = true then some id else none | _ => none) = ns := by
      rw [← hns]
      first
        | rfl
        | (congr 1; done)
        | (congr 1; funext x; cases x <;> rfl)
    unfold swIf at h
    by_cases c1 : (!(ts.length == 2 || ts.length == 3) || vs.length != ts.length || Γ.sc.kind != .function) = true
    · rw [if_pos c1] at h ⊢
      cases h; rfl
    rw [if_neg c1] at h ⊢
    try simp only [pure_bind]
    by_cases c2 : vs.any isStar = true
    · rw [if_pos c2] at h
      cases h
      exact if_pos c2
    rw [if_neg c2] at h
    refine (if_neg c2).trans ?_
    try simp only [pure_bind]
    by_cases c3 : (ns.length != ts.length || ns.eraseDups.length != ns.length) = true
    · rw [if_pos c3] at h
      cases h
      rw [← hns'] at c3
      exact if_pos c3
    rw [if_neg c3] at h
    rw [← hns'] at c3
    refine (if_neg c3).trans ?_
    try simp only [pure_bind]
    by_cases c4 : vs.all (foldedForSure 8) = true
    · rw [if_pos c4] at h ⊢
      cases h; rfl
    rw [if_neg c4] at h ⊢
    try simp only [pure_bind]
    by_cases c5 : vs.all (constantsAlone 8) = true
    · rw [if_pos c5] at h
      cases h
    rw [if_neg c5] at h ⊢
    cases h
    rw [← hns']
    rfl
  · cases h; rfl
  · cases h; rfl
  · cases h; rfl
  · cases h; rfl
  · cases h
theorem asg_each {t : Expr} (env : Env) (h : isStar t = false) (ts : List Expr) : assignEach (t :: ts) env = (false, assign t env) :: assignEach ts env := by
  cases t <;> first
    | rfl
    | cases h
theorem asg_len : ∀ (ts : List Expr) (env : Env), (assignEach ts env).length = ts.length
  | [], _ => rfl
  | t :: ts, env => by
    have ih := asg_len ts env
    cases t <;> (show (assignEach ts env).length + 1 = ts.length + 1; rw [ih])
theorem asg_plain : ∀ {ts : List Expr} (env : Env), ts.all (fun e => !isStar e) = true → (assignEach ts env).findIdx? (·.1) = none
  | [], _, _ => rfl
  | t :: ts, env, h => by
    rw [List.all_cons, Bool.and_eq_true, Bool.not_eq_true'] at h
    rw [asg_each env h.1, List.findIdx?_cons]
    simp [asg_plain env h.2]
end Q
end

section
set_option Elab.async false
set_option linter.all false
set_option maxRecDepth 100000
set_option maxHeartbeats 4000000
set_option autoImplicit false
/-! The context of a piece; expressions do what their syntax does. -/
namespace Q
open PySem PySem.Spec PyProof.Rows L2
def PB (P0 P : Par) : Prop := P.T = P0.T ∧ P.CA = P0.CA ∧ P.FN = P0.FN
/-- what is known of the own functions, classes, builtins; lv: the room that a function wants -/
structure SGok (SG' : SG) (lv : Nat) (prog : Program) (w : World) (K : PySem.W.Frag) (mg : Str → Option Value) (base : Heap) (P0 : Par) (C : Ctx) : Prop where
  lv2 : 2 ≤ lv
  fn : ∀ (f : Nat) (nm : Str) (ar : Nat), SG'.fn.lookup f = some (nm, ar) → ∃ (ad : Addr) (fd : FuncData) (ps : List Str), mg nm = some (.ref ad) ∧ PySem.W.keepIn K (.ref ad) = true ∧ (nm == ("__debug__" : Str)) = false ∧ ps.length = ar ∧ (∀ us : List Value, us.length = ps.length → bindArgs fd ⟨us, []⟩ = pure (ps.zip us)) ∧
    (∀ P, PB P0 P → P.XV = [] → P.xa 0 = none → FnS prog w K mg base P lv ad fd ps (C.ft f)) ∧ ∀ (n : Nat) (ks : List Str) (ix : List Nat), (f, n, ks, ix) ∈ SG'.kw → KwB fd ps ks n ix
  cl : ∀ (c : Nat) (nm : Str) (f : Str), SG'.cls.lookup c = some (nm, f) → mg nm = some (.ref (P0.CA c)) ∧ (nm == ("__debug__" : Str)) = false ∧ OwnE K (P0.CA c) ∧ ∃ (fI : Addr) (fd : FuncData) (ps : List Str), PySem.W.findIn K (.ref (P0.CA c)) "__init__" = some (some (.ref fI)) ∧ PySem.W.typeIn K (.ref fI) = some (.type "function") ∧ FnOk prog w K mg base (L2.CX prog w) 1 fI fd ps (InitSp (P0.CA c) (P0.FN c)) ∧ ps.length = 2 ∧ ∀ us : List Value, us.length = 2 → bindArgs fd ⟨us, []⟩ = pure (ps.zip us)
  sub : ∀ a b, PySem.W.exmOne K (.ref (P0.CA a)) (.ref (P0.CA b)) = some (C.sub a b)
  eg : ∀ c, ExG K (P0.CA c) (P0.FN c)
  ei : ∀ c, ExI K (P0.CA c)
  slf : ∀ a b, P0.CA a = P0.CA b → C.sub a b = true
  fnm : C.fn = P0.FN
  bl : ∀ x ∈ SG'.blt, x ≠ ("gcd" : Str) → mg x = none
  gl : ∀ (x : Str) (d : D), (x, d) ∈ SG'.gl → ∃ (u : Value) (v : V), mg x = some u ∧ RelV v u ∧ (x == ("__debug__" : Str)) = false ∧ ∀ M H, DV K M H d v
  gc : ("gcd" : Str) ∈ SG'.blt → mg "gcd" = some (.builtin "math.gcd")
  ho : ∀ (h : Nat) (x : Str), SG'.ho[h]? = some x → ∀ (X : Cx) (P : Par) (W : WX) (Fl : Ev → Sto → Res D) (params : Arguments) (body : Expr) (scope : Scope) (p lpos pos : Pos) (c t : Addr), X.prog = prog → X.w = w → X.K = K → X.mg = mg → X.base = base → PB P0 P → P.XV = [] → P.xa 0 = none → Gl X x →
    LamX.TabB X.base X.mg c t → X.env.code = .ref c → (t, X.env.qual ++ "<lambda>") ∈ P.T → (∀ p ∈ P.T, p.1 = t → p.2 = X.env.qual ++ "<lambda>") → Room (lv + 2) X.A → X.A.guards = some [] → L2.Takes X W → LamX.LamS X.env.scope scope → noArgs params = true →
    (∀ (A : Around) (outer : List Env) (s : Shared) (H : Hp) (E : XK) (f c' : Addr), Room lv (A.deeper (LamX.lamEnv X scope s.heap.objs.size f c')) → A.guards = some [] → PE (LamX.lamCx X A outer s H E scope f c') body (tE X.K P (fun c d _ H => E c d H) Fl)) →
    PE X (.Call (.Name x p) [.Lambda params body scope lpos] [] pos) (tE X.K P W fun env st => C.hf h (fun s => Fl env s) st)
structure Cok (SG' : SG) (lv : Nat) (P0 P : Par) (C : Ctx) (Γ : Gam) (X : Cx) (W : WX) : Prop where
  pb : PB P0 P
  G : SGok SG' lv X.prog X.w X.K X.mg X.base P0 C
  N : X.N = Γ.N
  sc : X.env.scope = Γ.sc
  nd : X.N.Nodup
  fk : Γ.sc.kind = .function
  fnA : Γ.fnAll = true → ∀ x, X.fn x = true
  calm : Γ.calm = true → X.calm = true ∧ Room (lv + Γ.rm) X.A ∧ P.XV = [] ∧ P.xa 0 = none ∧ PassesOwn (model X.prog X.w) X.A X.env X.xe
  un : X.A.units + 64 < cLine
  gd : X.A.guards = some []
  tk : L2.Takes X W
  top : Γ.top = true → X.stack = X.env :: X.outer ∧ X.env.frame = some X.env.locals ∧ Γ.ex = none
  lam : ∀ nm, Γ.lam = some nm → Γ.rm = 2 ∧ ∃ c t, X.env.code = .ref c ∧ LamX.TabB X.base X.mg c t ∧ (t, X.env.qual ++ nm) ∈ P.T ∧ ∀ p ∈ P.T, p.1 = t → p.2 = X.env.qual ++ nm
  th : ∀ a, Γ.th = some a → ThOk X P a C.th
  ex : ∀ i n, Γ.ex = some (i, n) → ∃ c d, C.ex = some (c, d) ∧ ∀ (W : WX), (∀ (f : Str) (p0 p1 : Pos), PE X (.Attribute (.Name n p0) f p1) (tE X.K P W (thingF i (decide (f = C.fn c)) d))) ∧
    ∀ (c2 : Nat) (T f2 : Str) (p p0 p2 pos : Pos), SG'.cls.lookup c2 = some (T, f2) → Gl X T → Gl X "isinstance" → X.mg "isinstance" = none → PE X (.Call (.Name "isinstance" p) [.Name n p0, .Name T p2] [] pos) (tE X.K P W (isEF i (C.sub c c2)))

section
variable {G : SG} {lv : Nat} {P0 P : Par} {C : Ctx} {Γ : Gam} {X : Cx} {W : WX}
theorem Cok.gl (k : Cok G lv P0 P C Γ X W) {x : Str} (h : glB Γ x = true) : Gl X x := by
  unfold glB lk at h
  show X.env.scope.names.lookup x = some .globalImplicit
  rw [k.sc]
  exact beq_iff_eq.mp h
theorem Cok.vis (k : Cok G lv P0 P C Γ X W) {x : Str} (h : visB Γ x = true) : Vis X.env.scope x := by
  unfold visB lk at h
  unfold Vis
  rw [k.sc]
  simp only [Bool.or_eq_true, beq_iff_eq] at h
  rcases h with (h | h) | h
  · exact .inl h
  · exact .inr (.inl h)
  · exact .inr (.inr h)
theorem Cok.slot (k : Cok G lv P0 P C Γ X W) {i : Nat} {x : Str} (h : slot Γ i x = true) : X.N[i]? = some x := by
  unfold Q.slot at h
  rw [k.N]
  exact beq_iff_eq.mp h
theorem Cok.loc (k : Cok G lv P0 P C Γ X W) {x : Str} (h : locB Γ x = true) : L2.Loc X.env.scope x ∧ (X.fn x = true ∨ X.env.scope.names.lookup x = some .local) := by
  unfold locB lk at h
  unfold L2.Loc
  rw [k.sc]
  simp only [Bool.and_eq_true, Bool.or_eq_true, beq_iff_eq] at h
  obtain ⟨h1, h2⟩ := h
  refine ⟨h1, ?_⟩
  rcases h2 with h2 | h2
  · exact .inl (k.fnA h2 x)
  · exact .inr h2
theorem okN_d {x : Str} (h : okN x = true) : (x == ("__debug__" : Str)) = false ∧ (x == ("__classdict__" : Str)) = false := by
  unfold okN at h
  simpa using h
theorem Cok.bl (k : Cok G lv P0 P C Γ X W) {x : Str} (h : G.blt.contains x = true) (n : x ≠ ("gcd" : Str)) : X.mg x = none := k.G.bl x (by simpa using h) n
theorem bfN_ne (f : Bf) : bfN f ≠ ("__name__" : Str) ∧ (bfN f == ("__debug__" : Str)) = false := by cases f <;> decide +kernel
theorem aug_ok (o : Op) : OpR X (inplaceOp (opK o)) (rD2 X.K P (augD o)) := by
  have no : ∀ {f : Value → Value → Sem Value}, OpR X f (rD2 X.K P fun _ _ _ => none) := fun {f} pins s σ H x y v u Q I rx ry q => by
    obtain ⟨M, st, dx, dy, a, r1, r2, p⟩ := q
    exact p.not.elim
  cases o with
  | add => exact ia_add
  | sub => exact ia_sub
  | mul => exact ia_mul
  | fdiv => exact ia_fdiv
  | _ => exact no
theorem op_ok (o : Op) : OpR X (binaryOp (opK o)) (rD2 X.K P (opD o)) := by
  cases o with
  | add => exact add_ok
  | sub => exact sub_ok
  | mul => exact mul2_ok
  | fdiv => exact fdiv_ok
  | mod => exact mod_ok
  | pow => exact pow_ok
  | shl => exact shl_ok'
  | shr => exact shr_ok
  | band => exact and_ok
  | bor => exact or_ok
  | bxor => exact xor_ok
theorem cm_ok (hu : X.A.units + 64 < cLine) (o : Cm) : OpR X (compareOp (cmK o)) (rD2 X.K P (cmD o)) := by
  cases o with
  | eq => exact eq_ok hu
  | ne => exact ne_ok hu
  | lt => exact lt_ok
  | le => exact le_ok
  | gt => exact gt_ok
  | ge => exact ge_ok
  | is => exact is_ok
  | isNot => exact isNot_ok
  | isin => exact in_ok hu
  | notin => exact notIn_ok hu
/-- how long a list of values is -/
def elLen : EL → Nat
  | .nil => 0
  | .cons _ es => elLen es + 1
theorem Res.bind_ok {α β : Type} {r : Res α} {f : α → Sto → Res β} {b : β} {st : Sto} (h : r.bind f = .ok b st) : ∃ a s1, r = .ok a s1 ∧ f a s1 = .ok b st := by
  cases r with
  | ok a s1 => exact ⟨a, s1, rfl, h⟩
  | exc c d s => cases h
  | err => cases h
theorem evL_len {C : Ctx} : ∀ (es : EL) {env : Ev} {st : Sto} {ds : List D} {s : Sto}, evL C es env st = .ok ds s → ds.length = elLen es
  | .nil, _, _, _, _, h => by
    simp only [evL] at h
    cases h
    rfl
  | .cons e es, _, _, _, _, h => by
    simp only [evL] at h
    obtain ⟨a, s1, _, h2⟩ := Res.bind_ok h
    obtain ⟨b, s2, h3, h4⟩ := Res.bind_ok h2
    cases h4
    rw [List.length_cons, evL_len es h3, elLen]
theorem ckL_len : ∀ {es : EL} {xs : List Expr}, ckL G Γ es xs = true → elLen es = xs.length ∧ xs.all (fun e => !isStar e) = true
  | .nil, [], _ => ⟨rfl, rfl⟩
  | .nil, _ :: _, h => by simp [ckL] at h
  | .cons e es, [], h => by simp [ckL] at h
  | .cons e es, x :: xs, h => by
    simp only [ckL, Bool.and_eq_true] at h
    obtain ⟨h1, h2⟩ := ckL_len h.2
    exact ⟨by rw [elLen, h1, List.length_cons], by rw [List.all_cons, h2, h.1.1]; rfl⟩
theorem ckK_len : ∀ {es : EL} {xs : List Keyword}, ckK G Γ es xs = true → elLen es = xs.length
  | .nil, [], _ => rfl
  | .nil, _ :: _, h => by simp [ckK] at h
  | .cons e es, [], h => by simp [ckK] at h
  | .cons e es, ⟨_, x, _⟩ :: xs, h => by
    simp only [ckK, Bool.and_eq_true] at h
    rw [elLen, ckK_len h.2, List.length_cons]
theorem bind_len {α : Type} {r : Res (List D)} {n : Nat} {F F' : List D → Sto → Res α} (hr : ∀ ds s, r = .ok ds s → ds.length = n) (h : ∀ ds s, ds.length = n → F ds s = F' ds s) : r.bind F = r.bind F' := by
  cases r with
  | ok ds s => exact h ds s (hr ds s rfl)
  | exc c d s => rfl
  | err => rfl
theorem pick_len {α : Type} : ∀ {ix : List Nat} {xs : List α}, ix.all (fun i => decide (i < xs.length)) = true → (pick ix xs).length = ix.length
  | [], _, _ => rfl
  | i :: ix, xs, h => by
    rw [List.all_cons, Bool.and_eq_true, decide_eq_true_eq] at h
    unfold pick
    rw [List.filterMap_cons, List.getElem?_eq_getElem h.1]
    show (pick ix xs).length + 1 = ix.length + 1
    rw [pick_len h.2]
theorem pe_same {e : Expr} {F F' : Ev → Sto → Res D} (h : PE X e (tE X.K P W F)) (e' : ∀ env st, F env st = F' env st) : PE X e (tE X.K P W F') := by
  have : F = F' := by funext env st; exact e' env st
  rw [← this]; exact h
theorem ps_same {s : Stmt} {F F' : Ev → Sto → SR} (h : PS X s (tS X.K P W F)) (e' : ∀ env st, F env st = F' env st) : PS X s (tS X.K P W F') := by
  have : F = F' := by funext env st; exact e' env st
  rw [← this]; exact h
/-- the block of a comprehension -/
theorem Cok.blk (k : Cok G lv P0 P C Γ X W) {scope : Scope} (hk : scope.kind = .function) (hc : Γ.calm = true) (s : Shared) (H : Hp) (L : Addr) (cl : List (Str × Addr)) (fp : List Addr) : Cok G lv P0 P C (blkG Γ scope) (X.blk s H scope (compEnvC scope cl L X.env) fp) W0 where
  pb := k.pb
  G := k.G
  N := k.N
  sc := by
    show relS scope X.env.scope = relS scope Γ.sc
    rw [k.sc]
  nd := k.nd
  fk := hk
  fnA := fun h => nomatch h
  calm := fun h => ⟨(k.calm hc).1, (k.calm hc).2.1, (k.calm hc).2.2.1, (k.calm hc).2.2.2.1, PassesOwn.never⟩
  un := k.un
  gd := k.gd
  tk := takes0
  top := fun h => nomatch h
  lam := fun _ h => nomatch h
  th := fun a h => nomatch h
  ex := fun i n h => nomatch h
theorem Cok.tr (k : Cok G lv P0 P C Γ X W) {W1 : WX} {pn : List (Addr × Obj)} {xe : Value → Shared → Prop} (tk : L2.Takes (X.tr pn xe) W1) (ow : PassesOwn (model X.prog X.w) X.A X.env xe) (hx : Γ.ex = none) : Cok G lv P0 P C Γ (X.tr pn xe) W1 where
  pb := k.pb
  G := k.G
  N := k.N
  sc := k.sc
  nd := k.nd
  fk := k.fk
  fnA := k.fnA
  calm := fun h => ⟨(k.calm h).1, (k.calm h).2.1, (k.calm h).2.2.1, (k.calm h).2.2.2.1, ow⟩
  un := k.un
  gd := k.gd
  tk := tk
  top := k.top
  lam := k.lam
  th := fun a h W pn2 xe2 p1 p2 t => k.th a h W pn2 xe2 p1 p2 t
  ex := fun i n h => by rw [hx] at h; cases h
end
end Q
end

section
set_option Elab.async false
set_option linter.all false
set_option maxRecDepth 100000
set_option maxHeartbeats 8000000
set_option autoImplicit false
/-! Expressions do what their syntax does. -/
namespace Q
open PySem PySem.Spec PyProof.Rows L2
def isBo : Expr → Bool
  | .BoolOp .. => true
  | _ => false
section
variable {G : SG} {lv : Nat} {P0 P : Par} {C : Ctx}
theorem q_terr {X : Cx} {W : WX} {x : Expr} : PT X x (tT X.K P W fun _ _ => .err) := ⟨fun pins s σ H Q I h => by
  obtain ⟨M, env, st, sl, at_, p⟩ := h
  exact p.elim⟩
theorem bf_ok {Γ : Gam} {X : Cx} {W : WX} (k : Cok G lv P0 P C Γ X W) {f : Bf} {x : Str} {y : Expr} {ys : List Expr} {p pos : Pos} {F : Ev → Sto → Res (List D)} (hx : x = bfN f) (hg : glB Γ x = true) (hb : G.blt.contains x = true) (hc : (Γ.calm || (f != .max2 && f != .min2 && f != .sum)) = true) (hs : (y :: ys).all (fun e => !isStar e) = true) (ha : PA X (y :: ys) (tL X.K P W F)) :
    PE X (.Call (.Name x p) (y :: ys) [] pos) (tE X.K P W fun env st => (F env st).bind fun ds s1 => ofO (bfD f ds s1)) := by
  have hs1 := hs
  rw [List.all_cons, Bool.and_eq_true, Bool.not_eq_true'] at hs1
  have he := star_cons ys X.env hs1.1
  have hp := star_all X.env pos hs1.2
  have ne := bfN_ne f
  rw [← hx] at ne
  have cm : (f = .max2 ∨ f = .min2 ∨ f = .sum) → X.calm = true := fun z => by
    rw [Bool.or_eq_true] at hc
    rcases hc with hc | hc
    · exact (k.calm hc).1
    · rcases z with rfl | rfl | rfl <;> simp at hc
  cases f with
  | len => exact q_blt len_ok (k.gl hg) (k.bl hb (by rw [hx]; decide)) (by rw [hx]; decide +kernel) ha ne.1 ne.2 he hp
  | int => exact q_bty int_ok (k.gl hg) (k.bl hb (by rw [hx]; decide)) (by rw [hx]; decide +kernel) ha ne.1 ne.2 he hp
  | abs => exact q_blt abs_ok (k.gl hg) (k.bl hb (by rw [hx]; decide)) (by rw [hx]; decide +kernel) ha ne.1 ne.2 he hp
  | gcd =>
    subst hx
    have hb2 : bfN .gcd ∈ G.blt := by simpa using hb
    refine ⟨fun pins s σ H Q I hh => (pe_callBfun (gcd_ok (P := P)) (k.gl hg) (k.G.gc hb2) ha ne.2 he hp).run pins s σ H Q I ?_⟩
    obtain ⟨M, env, st, sl, at_, q⟩ := hh
    exact tG.go sl at_ q fun xs H1 ds M1 st1 s1 a1 sl1 r1 p1 => ⟨M1, st1, ds, a1, r1, p1.toO⟩
  | list => exact q_bty list_ok (k.gl hg) (k.bl hb (by rw [hx]; decide)) (by rw [hx]; decide +kernel) ha ne.1 ne.2 he hp
  | tuple => exact q_bty tuple_ok (k.gl hg) (k.bl hb (by rw [hx]; decide)) (by rw [hx]; decide +kernel) ha ne.1 ne.2 he hp
  | max2 => exact q_blt (max_ok (cm (.inl rfl))) (k.gl hg) (k.bl hb (by rw [hx]; decide)) (by rw [hx]; decide +kernel) ha ne.1 ne.2 he hp
  | min2 => exact q_blt (min_ok (cm (.inr (.inl rfl)))) (k.gl hg) (k.bl hb (by rw [hx]; decide)) (by rw [hx]; decide +kernel) ha ne.1 ne.2 he hp
  | sum => exact q_blt (sum_ok (cm (.inr (.inr rfl)))) (k.gl hg) (k.bl hb (by rw [hx]; decide)) (by rw [hx]; decide +kernel) ha ne.1 ne.2 he hp
  | repr => exact q_blt (repr_ok k.un k.gd) (k.gl hg) (k.bl hb (by rw [hx]; decide)) (by rw [hx]; decide +kernel) ha ne.1 ne.2 he hp
  | str => exact q_bty str_ok (k.gl hg) (k.bl hb (by rw [hx]; decide)) (by rw [hx]; decide +kernel) ha ne.1 ne.2 he hp
theorem call_ok {Γ : Gam} {X : Cx} {W : WX} (k : Cok G lv P0 P C Γ X W) {f : Nat} {es : EL} {x : Str} {ys : List Expr} {p pos : Pos} (hc : Γ.calm = true) (hg : glB Γ x = true) (hf : G.fn.lookup f = some (x, ys.length)) (hl : elLen es = ys.length) (hs : ys.all (fun e => !isStar e) = true) (ha : PA X ys (tL X.K P W (evL C es))) :
    PE X (.Call (.Name x p) ys [] pos) (tE X.K P W (evE C (.call f es))) := by
  obtain ⟨ad, fd, ps, hm, hk, hd, hps, hb, hF, _⟩ := k.G.fn f x _ hf
  obtain ⟨c1, c2, c3, c4, c5⟩ := k.calm hc
  have F := hF P k.pb c3 c4
  have hr : Room lv X.A := c2.mono (Nat.le_add_right _ _)
  cases ys with
  | nil =>
    cases es with
    | cons _ _ => simp [elLen] at hl
    | nil =>
      cases ps with
      | cons _ _ => simp at hps
      | nil => exact q_call0 F hr k.gd (k.gl hg) hm hk hb k.tk hd
  | cons y ys =>
    rw [List.all_cons, Bool.and_eq_true, Bool.not_eq_true'] at hs
    refine pe_same (q_call F hr k.gd (k.gl hg) hm hk hb k.tk ha hd (star_cons ys X.env hs.1) (star_all X.env pos hs.2)) fun env st => ?_
    simp only [evE]
    refine bind_len (n := elLen es) (fun ds s h => evL_len es h) fun ds s h => ?_
    unfold atLen
    rw [if_pos (by rw [h, hl, hps])]
theorem mt_ok {Γ : Gam} {X : Cx} {W : WX} (k : Cok G lv P0 P C Γ X W) {m : Mt} {es : EL} {Fo : Ev → Sto → Res D} {y : Expr} {ys : List Expr} {nm : Str} {ap cp : Pos} (hn : nm = mtN m) (hl : ys.length = mtA m) (h0 : isCall0 y = false) (hline : (ap.endLine == cp.line) = true) (hel : elLen es = ys.length) (hs : ys.all (fun e => !isStar e) = true) (ho : PE X y (tE X.K P W Fo)) (ha : PA X ys (tL X.K P W (evL C es))) :
    PE X (.Call (.Attribute y nm ap) ys [] cp) (tE X.K P W (fMt Fo (evL C es) (mtD m))) := by
  subst hn
  cases m with
  | append =>
    match ys, hl, hs, ha with
    | [e], _, hs, ha =>
      have hs1 := hs
      rw [List.all_cons, Bool.and_eq_true, Bool.not_eq_true'] at hs1
      exact q_lm PySem.F.slot_list_append PySem.F.type_list_append mt_append (fun x xs H Q h => app_r h) ho ha (attr_base _ _ _ h0) (star_few X.env cp hs (by show 1 < 29; omega)) hline (star_cons [] X.env hs1.1) rfl
  | pop =>
    match ys, hl, es, hel with
    | [], _, .nil, _ =>
      have := q_lm0 (X := X) (P := P) (W := W) (f := popD) PySem.F.slot_list_pop PySem.F.type_list_pop mt_pop (fun x xs H Q h => pop_r h) ho (attr_base (mtN .pop) X.env (eval y X.env) h0) hline
      refine pe_same this fun env st => ?_
      simp only [evL]
      rfl
theorem pe_bty {X : Cx} {x : Str} {T : String} {p : Pos} (hg : Gl X x) (hm : X.mg x = none) (hv : bootBuiltins x = some (.type T)) (hn : x ≠ "__name__") (hd : (x == ("__debug__" : Str)) = false) : PE X (.Name x p) (tC (.ty T)) :=
  ⟨fun pins s σ H Q I h => ld_blt I hg hm hv ⟨.ty T, H, I, rfl, h⟩ hn hd⟩
theorem ckTgs_len {Γ : Gam} : ∀ {l : TgL} {xs : List Expr}, ckTgs Γ l xs = true → xs.length = lT l ∧ xs.all (fun e => !isStar e) = true
  | .nil, [], _ => ⟨rfl, rfl⟩
  | .nil, _ :: _, h => by simp [ckTgs] at h
  | .cons e es, [], h => by simp [ckTgs] at h
  | .cons e es, x :: xs, h => by
    simp only [ckTgs, Bool.and_eq_true] at h
    obtain ⟨h1, h2⟩ := ckTgs_len h.2
    exact ⟨by rw [lT, ← h1, List.length_cons], by rw [List.all_cons, h2, h.1.1]; rfl⟩
theorem callK_ok {Γ : Gam} {X : Cx} {W : WX} (k : Cok G lv P0 P C Γ X W) {f n : Nat} {ix : List Nat} {es ks : EL} {x : Str} {ys : List Expr} {kws : List Keyword} {p pos : Pos} (hc : Γ.calm = true) (hg : glB Γ x = true) (h3 : (G.fn.lookup f).map (·.1) = some x) (h4 : (G.fn.lookup f).map (·.2) = some ix.length) (h5 : ix.all (fun i => decide (i < ys.length + kws.length)) = true) (h6 : ys.length = n)
    (h7 : (match kwNames kws with | some ns => G.kw.contains (f, n, ns, ix) | none => false) = true) (hl : elLen es = ys.length) (hs : ys.all (fun e => !isStar e) = true) (hlk : elLen ks = kws.length) (ha : PA X ys (tL X.K P W (evL C es))) (hk : PK X kws (tL X.K P W (evL C ks))) :
    PE X (.Call (.Name x p) ys kws pos) (tE X.K P W (evE C (.callK f n ix es ks))) := by
  have hf : G.fn.lookup f = some (x, ix.length) := by
    cases e : G.fn.lookup f with
    | none => rw [e] at h3; cases h3
    | some q =>
      rw [e] at h3 h4
      obtain ⟨a, b⟩ := q
      cases h3
      cases h4
      rfl
  cases e : kwNames kws with
  | none => rw [e] at h7; cases h7
  | some ns =>
    rw [e] at h7
    have hmem : (f, n, ns, ix) ∈ G.kw := by simpa using h7
    obtain ⟨n1, n2, n3, n4⟩ := kw_names X.env pos e
    obtain ⟨ad, fd, ps, hm, hkp, hd, hps, hb, hF, hkw⟩ := k.G.fn f x _ hf
    obtain ⟨c1, c2, c3, c4, c5⟩ := k.calm hc
    have F := hF P k.pb c3 c4
    have hr : Room lv X.A := c2.mono (Nat.le_add_right _ _)
    have fin : ∀ (ds ws : List D) (st : Sto), ds.length = n → ws.length = ns.length → kwRun ps n ix (C.ft f) ns.length ds ws st = C.ft f (pick ix (ds ++ ws)) st := fun ds ws st q1 q2 => by
      unfold kwRun
      rw [if_pos ⟨q1, q2, by rw [pick_len (by rw [List.length_append, q1, q2, ← h6, n4]; exact h5), hps]⟩]
    cases ys with
    | nil =>
      cases es with
      | cons _ _ => simp [elLen] at hl
      | nil =>
        subst h6
        refine pe_same (q_callK0 F hr k.gd (k.gl hg) hm hkp (hkw 0 ns ix hmem) k.tk hk n1 n2 hd (by rw [n3]; rfl)) fun env st => ?_
        simp only [evE, evL]
        show _ = Res.bind _ _
        refine bind_len (n := ns.length) (fun ds s h => by rw [evL_len ks h, hlk, n4]) fun ds s h => ?_
        refine (fin [] ds s rfl h).trans ?_
        rfl
    | cons y ys =>
      have hs1 := hs
      rw [List.all_cons, Bool.and_eq_true, Bool.not_eq_true'] at hs1
      refine pe_same (q_callK F hr k.gd (k.gl hg) hm hkp (hkw n ns ix hmem) k.tk ha hk n1 n2 hd (star_cons ys X.env hs1.1) (by rw [n3, star_all X.env pos hs]; rfl)) fun env st => ?_
      simp only [evE]
      refine bind_len (n := n) (fun ds s h => by rw [evL_len es h, hl, h6]) fun ds s h => ?_
      refine bind_len (n := ns.length) (fun ws s h => by rw [evL_len ks h, hlk, n4]) fun ws s h' => ?_
      rw [fin ds ws s h h', if_pos h]
/-- the context of a lambda's body -/
theorem Cok.lamB {Γ : Gam} {X : Cx} {W : WX} (k : Cok G lv P0 P C Γ X W) {scope : Scope} (L : LamX.LamS X.env.scope scope) (hc : Γ.calm = true) (A : Around) (outer : List Env) (s : Shared) (H : Hp) (E : XK) (f c' : Addr) (hr : Room lv (A.deeper (LamX.lamEnv X scope s.heap.objs.size f c'))) (hg : A.guards = some []) :
    Cok G lv P0 P C (lamG Γ scope) (LamX.lamCx X A outer s H E scope f c') (fun c d _ H => E c d H) where
  pb := k.pb
  G := k.G
  N := k.N
  sc := rfl
  nd := k.nd
  fk := L.kind
  fnA := fun h => nomatch h
  calm := fun _ => ⟨rfl, hr, (k.calm hc).2.2.1, (k.calm hc).2.2.2.1, passes_of rfl⟩
  un := hr.units
  gd := hg
  tk := takes_of rfl rfl rfl rfl
  top := fun h => nomatch h
  lam := fun _ h => nomatch h
  th := fun a h => nomatch h
  ex := fun i n h => nomatch h
/-- the context of a generator expression's turns -/
theorem Cok.gxB {Γ : Gam} {X : Cx} {W : WX} (k : Cok G lv P0 P C Γ X W) {scope : Scope} {own : List Nat} (L : GnS X.N X.env.scope scope own) (hc : Γ.calm = true) (A : Around) (s : Shared) (H : Hp) (code : Value) (fp : List Addr) (pn : List (Addr × Obj)) (hr : Room lv (A.deeper (gxE X scope s.heap.objs.size code))) (hg : A.guards = some []) :
    Cok G lv P0 P C (lamG Γ scope) (gxCx X A s H scope s.heap.objs.size code fp pn) W0 where
  pb := k.pb
  G := k.G
  N := k.N
  sc := rfl
  nd := k.nd
  fk := L.kind
  fnA := fun h => nomatch h
  calm := fun _ => ⟨rfl, hr, (k.calm hc).2.2.1, (k.calm hc).2.2.2.1, PassesOwn.never⟩
  un := hr.units
  gd := hg
  tk := takes0
  top := fun h => nomatch h
  lam := fun _ h => nomatch h
  th := fun a h => nomatch h
  ex := fun i n h => nomatch h
theorem gnS_by {N : List Str} {sc scope : Scope} {own : List Nat} (h : gnB N sc scope own = true) : GnS N sc scope own := by
  unfold gnB at h
  simp only [Bool.and_eq_true, Bool.or_eq_true, Bool.not_eq_true', decide_eq_true_eq, decide_eq_false_iff_not, List.all_eq_true] at h
  obtain ⟨⟨⟨⟨h1, h2⟩, h3⟩, h4⟩, h5⟩ := h
  refine ⟨h1, h2, h3, fun y hy => (h4 y hy).1, fun y hy e => ?_, fun i y e1 e2 => ?_⟩
  · rcases (h4 y hy).2 with (z | z) | z
    · exact absurd e z
    · exact .inl z
    · exact .inr z
  · have q := h5 i (List.mem_range.mpr (List.getElem?_eq_some_iff.mp e1).1)
    rw [e1] at q
    simp only [Bool.or_eq_true, Bool.not_eq_true', decide_eq_false_iff_not] at q
    rcases q with q | q
    · exact absurd e2 q
    · simpa using q
theorem gen_fold {e : Expr} (env : Env) (h1 : isSetE e = false) (h2 : isLst e = false) (x : Value) : genFold e env x = pure x := by
  cases e <;> first
    | exact no_fold env h1 x
    | exact absurd h2 (by decide)
    | cases h2
theorem pg_of_pv {X : Cx} {P : Par} {vs : List Nat} {tg : Expr} {g : D → Ev → Option Ev} (h : PG X tg (tPv X.K P vs g)) : PG X tg (tP X.K P g) := by
  refine ⟨fun pins s σ H v u Q I r q => h.run pins s σ H v u Q I r ?_⟩
  obtain ⟨M, env, st, d, sl, at_, rd, env', e, k⟩ := q
  exact ⟨M, env, st, d, sl, at_, rd, env', e, fun σ' M' H' s a l _ => k σ' M' H' s a l⟩
mutual
/-- targets of a block -/
theorem sTg {Γ : Gam} {X : Cx} {W : WX} {vs : List Nat} (k : Cok G lv P0 P C Γ X W) (hv : Γ.calm = true) : ∀ (t : Tg) (x : Expr), ckTg Γ t x = true → inTg vs t = true → PG X x (tPv X.K P vs (gT t))
  | .nm i, x, h, hi => by
    unfold ckTg at h
    split at h
    · rename_i i' x p e
      cases e
      rw [Bool.and_eq_true] at h
      obtain ⟨l1, l2⟩ := k.loc h.2
      unfold inTg at hi
      exact q_pvn (by simpa using hi) k.nd (k.slot h.1) l1 l2
    · rename_i e; cases e
    · cases h
  | .tp l, x, h, hi => by
    unfold ckTg at h
    split at h
    · rename_i e; cases e
    · rename_i l' xs kk p e
      cases e
      rw [Bool.and_eq_true] at h
      unfold inTg at hi
      obtain ⟨h1, h2⟩ := ckTgs_len h.2
      exact q_pvtup (k.calm hv).1 (sTgs k hv l xs h.2 hi) (by rw [asg_len, h1]) (asg_plain X.env h2)
    · cases h
theorem sTgs {Γ : Gam} {X : Cx} {W : WX} {vs : List Nat} (k : Cok G lv P0 P C Γ X W) (hv : Γ.calm = true) : ∀ (t : TgL) (xs : List Expr), ckTgs Γ t xs = true → inTgs vs t = true → PGs X xs (tPvs X.K P vs (gTs t))
  | .nil, [], _, _ => q_pvnil
  | .nil, _ :: _, h, _ => by simp [ckTgs] at h
  | .cons t l, [], h, _ => by simp [ckTgs] at h
  | .cons t l, x :: xs, h, hi => by
    simp only [ckTgs, Bool.and_eq_true, Bool.not_eq_true'] at h
    simp only [inTgs, Bool.and_eq_true] at hi
    exact q_pvcons (sTg k hv t x h.1.2 hi.1) (sTgs k hv l xs h.2 hi.2) (by rw [asg_each X.env h.1.1 xs]; rfl)
end
theorem ckP_len {Γ : Gam} : ∀ {ps : PL} {ks : List (Option Expr)} {vs : List Expr}, ckP G Γ ps ks vs = true → ks.all (·.isSome) = true ∧ ks.length = vs.length
  | .nil, [], [], _ => ⟨rfl, rfl⟩
  | .nil, _ :: _, _, h => by simp [ckP] at h
  | .nil, [], _ :: _, h => by simp [ckP] at h
  | .cons a b r, [], _, h => by simp [ckP] at h
  | .cons a b r, none :: _, _, h => by simp [ckP] at h
  | .cons a b r, some x :: xs, [], h => by simp [ckP] at h
  | .cons a b r, some x :: xs, y :: ys, h => by
    simp only [ckP, Bool.and_eq_true] at h
    obtain ⟨h1, h2⟩ := ckP_len h.2
    exact ⟨by rw [List.all_cons, h1]; rfl, by rw [List.length_cons, List.length_cons, h2]⟩
mutual
theorem sE {Γ : Gam} {X : Cx} {W : WX} (k : Cok G lv P0 P C Γ X W) (e : E) (x : Expr) (h : ckE G Γ e x = true) : PE X x (tE X.K P W (evE C e)) := by
  unfold ckE at h
  split at h
  · -- var
    simp only [Bool.and_eq_true] at h
    obtain ⟨d1, d2⟩ := okN_d h.2
    simp only [evE]
    exact q_var (k.slot h.1.1) (k.vis h.1.2) d1 d2
  · simp only [evE]; exact q_const pe_non fun _ _ => dv_non.mpr rfl
  · simp only [beq_iff_eq] at h; subst h; simp only [evE]; exact q_const pe_bl fun _ _ => dv_bl.mpr rfl
  · simp only [beq_iff_eq] at h; subst h; simp only [evE]; exact q_const pe_int fun _ _ => dv_int.mpr rfl
  · simp only [beq_iff_eq] at h; subst h; simp only [evE]; exact q_const pe_str fun _ _ => dv_str.mpr rfl
  · -- op
    rename_i o a b x p y pos
    simp only [Bool.and_eq_true, beq_iff_eq] at h
    obtain ⟨⟨rfl, h1⟩, h2⟩ := h
    simp only [evE]
    exact q_bin (op_ok o) (sE k a x h1) (sE k b y h2)
  · rename_i o a b x p y pos
    simp only [Bool.and_eq_true, beq_iff_eq] at h
    obtain ⟨⟨⟨rfl, h0⟩, h1⟩, h2⟩ := h
    simp only [evE]
    exact q_cmp (cm_ok k.un o) (sE k a x h1) (sE k b y h2) (no_mark (by simpa using h0))
  · rename_i o o' a b c x p p' y z pos
    simp only [Bool.and_eq_true, beq_iff_eq] at h
    obtain ⟨⟨⟨⟨⟨rfl, rfl⟩, h0⟩, h1⟩, h2⟩, h3⟩ := h
    simp only [evE]
    exact q_chain (cm_ok k.un o) (cm_ok k.un o') (sE k a x h1) (sE k b y h2) (sE k c z h3) (no_mark (o := o') (by simpa using h0))
  · rename_i a b x y pos
    simp only [Bool.and_eq_true] at h
    simp only [evE]
    exact q_and (sE k a x h.1) (pe_one (sE k b y h.2))
  · rename_i a b x y z r p
    simp only [Bool.and_eq_true] at h
    simp only [evE]
    exact q_and (sE k a x h.1) (sE k b _ h.2)
  · rename_i a b x y pos
    simp only [Bool.and_eq_true] at h
    simp only [evE]
    exact q_or (sE k a x h.1) (pe_one (sE k b y h.2))
  · rename_i a b x y z r p
    simp only [Bool.and_eq_true] at h
    simp only [evE]
    exact q_or (sE k a x h.1) (sE k b _ h.2)
  · rename_i a x pos
    simp only [evE]
    exact q_not (sE k a x h)
  · rename_i a x pos
    simp only [evE]
    exact q_un neg_ok (sE k a x h)
  · rename_i c a b x y z pos
    simp only [Bool.and_eq_true] at h
    simp only [evE]
    exact q_if (sT k c x h.1.1) (sE k a y h.1.2) (sE k b z h.2)
  · rename_i es xs kk pos
    simp only [evE]
    exact q_tup (sL k es xs h)
  · rename_i e es x p xs kk pos
    simp only [Bool.and_eq_true] at h
    simp only [evE]
    exact q_tupS (sE k e x h.1) (sL k es xs h.2)
  · rename_i es xs pos
    simp only [evE]
    exact q_lst (sL k es xs h)
  · rename_i a x j k1 p1 p2 p3 pos
    simp only [Bool.and_eq_true, beq_iff_eq] at h
    obtain ⟨rfl, h⟩ := h
    simp only [evE]
    exact q_back (sE k a x h)
  · rename_i a lo hi x l u p pos
    simp only [Bool.and_eq_true] at h
    simp only [evE]
    exact q_slice (sE k a x h.1.1) (sO k lo l h.1.2) (sO k hi u h.2)
  · rename_i a b x y pos
    simp only [Bool.and_eq_true, Bool.not_eq_true'] at h
    simp only [evE]
    exact q_ix (ix_ok k.un) (sE k a x h.1.2) (sE k b y h.2) (plain_ix h.1.1)
  · rename_i f es x p y ys pos
    simp only [Bool.and_eq_true, beq_iff_eq] at h
    obtain ⟨⟨⟨⟨h1, h2⟩, h3⟩, h4⟩, h5⟩ := h
    simp only [evE]
    exact bf_ok k h1 h2 h3 h4 (ckL_len h5).2 (sL k es _ h5)
  · rename_i a t x p y T p2 pos
    simp only [Bool.and_eq_true, beq_iff_eq, Bool.not_eq_true'] at h
    obtain ⟨⟨⟨⟨⟨⟨⟨rfl, h2⟩, h3⟩, rfl⟩, h5⟩, h6⟩, h7⟩, h8⟩ := h
    simp only [evE]
    refine q_isi (x := ("isinstance" : Str)) (sE k a y h8) (k.gl h2) (k.bl h3 (by decide)) (pe_bty (k.gl h5) (k.bl h6 (by cases t <;> decide)) (by cases t <;> decide +kernel) (by cases t <;> decide +kernel) (by cases t <;> decide +kernel)) (star_cons _ X.env h7)
  · rename_i e y nm ap cp
    simp only [Bool.and_eq_true, beq_iff_eq, Bool.not_eq_true'] at h
    obtain ⟨⟨⟨rfl, h2⟩, h3⟩, h4⟩ := h
    simp only [evE]
    exact q_bitl (sE k e y h4) (attr_base _ _ _ h2) (beq_iff_eq.mpr h3)
  · rename_i f es x p ys pos
    simp only [Bool.and_eq_true, beq_iff_eq, bne_iff_ne] at h
    obtain ⟨⟨⟨h1, h2⟩, h3⟩, h4⟩ := h
    exact call_ok k h1 h2 h3 (ckL_len h4).1 (ckL_len h4).2 (sL k es ys h4)
  · rename_i f n ix es ks x p ys kws pos
    simp only [Bool.and_eq_true, beq_iff_eq, bne_iff_ne] at h
    obtain ⟨⟨⟨⟨⟨⟨⟨⟨h1, h2⟩, h3⟩, h4⟩, h5⟩, h6⟩, h7⟩, h8⟩, h9⟩ := h
    exact callK_ok k h1 h2 h3 h4 h5 h6 h7 (ckL_len h8).1 (ckL_len h8).2 (ckK_len h9) (sL k es ys h8) (sK k ks kws h9)
  · rename_i m o es y nm ap ys cp
    simp only [Bool.and_eq_true, beq_iff_eq, Bool.not_eq_true'] at h
    obtain ⟨⟨⟨⟨⟨h1, h2⟩, h3⟩, h4⟩, h5⟩, h6⟩ := h
    simp only [evE]
    exact mt_ok k h1 h2 h3 (beq_iff_eq.mpr h4) (ckL_len h6).1 (ckL_len h6).2 (sE k o y h5) (sL k es ys h6)
  · rename_i o kk d y nm ap u v cp
    simp only [Bool.and_eq_true, beq_iff_eq, Bool.not_eq_true'] at h
    obtain ⟨⟨⟨⟨⟨⟨⟨rfl, h2⟩, h3⟩, h4⟩, h5⟩, h6⟩, h7⟩, h8⟩ := h
    simp only [evE]
    have hs : ([u, v] : List Expr).all (fun e => !isStar e) = true := by simp [h4, h5]
    exact q_get2 k.un (sE k o y h6) (sE k kk u h7) (sE k d v h8) ⟨attr_base _ _ _ h2, star_few X.env cp hs (by show 2 < 29; omega), beq_iff_eq.mpr h3, by rw [star_cons _ X.env h4, star_cons _ X.env h5]; rfl⟩
  · rename_i ps ks vs pos
    simp only [Bool.and_eq_true, decide_eq_true_eq] at h
    exact sD k ps ks vs h.1 h.2
  · rename_i it tg t e vs x tx ix ifs scope pos
    simp only [Bool.and_eq_true, Bool.not_eq_true'] at h
    obtain ⟨⟨⟨⟨⟨⟨⟨h1, h2⟩, h3⟩, h4⟩, h5⟩, h6⟩, h7⟩, h8⟩ := h
    have ok : BlkOk X.N X.env.scope scope (ownOf Γ vs) := by rw [k.N, k.sc]; exact blkOk_by h2
    have ho : (ownOf Γ vs).map (·.2) = vs := by
      unfold ownOf
      rw [List.map_map]
      exact List.map_id _
    simp only [evE]
    have z := q_lc (X := X) (P := P) (W := W) (own := ownOf Γ vs) (pos := pos) (k.calm h1).1 k.nd (sI k it tx ix h4) ok
      (fun s H L cl fp => sTg (k.blk ok.kind h1 s H L cl fp) h1 tg tx h5 (by rw [ho]; exact h6)) (fun s H L cl fp => sOT (k.blk ok.kind h1 s H L cl fp) t ifs h7) (fun s H L cl fp => sE (k.blk ok.kind h1 s H L cl fp) e x h8) (no_fold X.env h3)
    rw [ho] at z
    exact z
  · rename_i hh e x p ar body scope lp pos
    simp only [Bool.and_eq_true, beq_iff_eq] at h
    obtain ⟨⟨⟨⟨⟨⟨h1, h2⟩, h3⟩, h4⟩, h5⟩, h6⟩, h7⟩ := h
    obtain ⟨r2, c, t, e1, e2, e3, e4⟩ := k.lam _ (of_decide_eq_true h2)
    obtain ⟨c1, c2, c3, c4, c5⟩ := k.calm h1
    rw [r2] at c2
    have L : LamX.LamS X.env.scope scope := by rw [k.sc]; exact LamX.lamS_by h5
    simp only [evE]
    exact k.G.ho hh x h4 X P W (evE C e) ar body scope p lp pos c t rfl rfl rfl rfl rfl k.pb c3 c4 (k.gl h3) e2 e1 e3 e4 c2 k.gd k.tk L h6 fun A outer s H E f c' hr hg => sE (k.lamB L h1 A outer s H E f c' hr hg) e body h7
  · rename_i it tg e vs x p y tx ix scope gp pos
    simp only [Bool.and_eq_true, beq_iff_eq, Bool.not_eq_true'] at h
    obtain ⟨⟨⟨⟨⟨⟨⟨⟨⟨⟨⟨h1, h2⟩, rfl⟩, h4⟩, h5⟩, h6⟩, h7⟩, h8⟩, h9⟩, h10⟩, h11⟩, h12⟩ := h
    obtain ⟨r2, c, t, e1, e2, e3, e4⟩ := k.lam _ (of_decide_eq_true h2)
    obtain ⟨c1, c2, c3, c4, c5⟩ := k.calm h1
    rw [r2] at c2
    have L : GnS X.N X.env.scope scope vs := by rw [k.sc, k.N]; exact gnS_by h6
    simp only [evE]
    exact q_all c2 k.gd (k.gl h4) (k.bl h5 (by decide)) (by rfl) e2 e1 e3 e4 L (sI k it tx ix h9)
      (fun A s H code fp pn hr hg => pg_of_pv (sTg (k.gxB L h1 A s H code fp pn hr hg) h1 tg tx h10 h11))
      (fun A s H code fp pn hr hg => sE (k.gxB L h1 A s H code fp pn hr hg) e y h12) (gen_fold X.env h7 h8) (by rfl)
  · rename_i it tg e vs x p y tx ix scope gp pos
    simp only [Bool.and_eq_true, beq_iff_eq, Bool.not_eq_true'] at h
    obtain ⟨⟨⟨⟨⟨⟨⟨⟨⟨⟨⟨h1, h2⟩, rfl⟩, h4⟩, h5⟩, h6⟩, h7⟩, h8⟩, h9⟩, h10⟩, h11⟩, h12⟩ := h
    obtain ⟨r2, c, t, e1, e2, e3, e4⟩ := k.lam _ (of_decide_eq_true h2)
    obtain ⟨c1, c2, c3, c4, c5⟩ := k.calm h1
    rw [r2] at c2
    have L : GnS X.N X.env.scope scope vs := by rw [k.sc, k.N]; exact gnS_by h6
    simp only [evE]
    exact q_sum c2 k.gd (k.gl h4) (k.bl h5 (by decide)) (by rfl) e2 e1 e3 e4 L (sI k it tx ix h9)
      (fun A s H code fp pn hr hg => pg_of_pv (sTg (k.gxB L h1 A s H code fp pn hr hg) h1 tg tx h10 h11))
      (fun A s H code fp pn hr hg => sE (k.gxB L h1 A s H code fp pn hr hg) e y h12) (gen_fold X.env h7 h8) (by rfl)
  · rename_i it tg e vs x p y tx ix scope gp pos
    simp only [Bool.and_eq_true, beq_iff_eq, Bool.not_eq_true'] at h
    obtain ⟨⟨⟨⟨⟨⟨⟨⟨⟨⟨⟨h1, h2⟩, rfl⟩, h4⟩, h5⟩, h6⟩, h7⟩, h8⟩, h9⟩, h10⟩, h11⟩, h12⟩ := h
    obtain ⟨r2, c, t, e1, e2, e3, e4⟩ := k.lam _ (of_decide_eq_true h2)
    obtain ⟨c1, c2, c3, c4, c5⟩ := k.calm h1
    rw [r2] at c2
    have L : GnS X.N X.env.scope scope vs := by rw [k.sc, k.N]; exact gnS_by h6
    simp only [evE]
    exact q_any c2 k.gd (k.gl h4) (k.bl h5 (by decide)) (by rfl) e2 e1 e3 e4 L (sI k it tx ix h9)
      (fun A s H code fp pn hr hg => pg_of_pv (sTg (k.gxB L h1 A s H code fp pn hr hg) h1 tg tx h10 h11))
      (fun A s H code fp pn hr hg => sE (k.gxB L h1 A s H code fp pn hr hg) e y h12) (gen_fold X.env h7 h8) (by rfl)
  · rename_i x d y pos
    simp only [Bool.and_eq_true, beq_iff_eq, List.any_eq_true] at h
    obtain ⟨⟨rfl, h2⟩, ⟨x', d'⟩, h3, h4, h5⟩ := h
    obtain rfl : d' = d := eqC_eq _ _ h5
    obtain rfl : x' = x := h4
    obtain ⟨u, v, e1, e2, e3, e4⟩ := k.G.gl _ _ h3
    simp only [evE]
    exact q_const (pe_glob (k.gl h2) e1 e2 e3) fun M H => e4 M H
  · rename_i x p pos
    simp only [beq_iff_eq] at h
    simp only [evE]
    exact k.th x h W X.pn X.xe p pos k.tk
  · rename_i i f n p g pos
    simp only [Bool.and_eq_true, beq_iff_eq] at h
    obtain ⟨h1, rfl⟩ := h
    obtain ⟨c, d, e1, e2⟩ := k.ex i n h1
    simp only [evE, thingR, e1]
    exact (e2 W).1 f p pos
  · rename_i i c2 x p n p0 t p2 pos
    simp only [Bool.and_eq_true, beq_iff_eq] at h
    obtain ⟨⟨⟨⟨⟨rfl, h2⟩, h3⟩, h4⟩, h5⟩, h6⟩ := h
    obtain ⟨c, d, e1, e2⟩ := k.ex i n h4
    cases hc : G.cls.lookup c2 with
    | none => rw [hc] at h5; cases h5
    | some q =>
      obtain ⟨T, f2⟩ := q
      rw [hc] at h5
      cases h5
      simp only [evE, isER, e1]
      exact (e2 W).2 c2 _ f2 p p0 p2 pos hc (k.gl h6) (k.gl h2) (k.bl h3 (by decide))
  · cases h
termination_by (sizeOf e, 0)
theorem sT {Γ : Gam} {X : Cx} {W : WX} (k : Cok G lv P0 P C Γ X W) (e : E) (x : Expr) (h : ckE G Γ e x = true) : PT X x (tT X.K P W (evT C e)) := by
  have hE := sE k e x h
  by_cases hp : isPlainT x = true
  · -- truth of the value
    have plain := fun F (z : PE X x (tE X.K P W F)) => q_tru z (plain_t X.env hp)
    cases e with
    | var i => simp only [evE] at hE; simp only [evT]; exact plain _ hE
    | bl b => simp only [evE] at hE; simp only [evT]; exact plain _ hE
    | call f es => simp only [evE] at hE; simp only [evT]; exact plain _ hE
    | isi a t => simp only [evE] at hE; simp only [evT]; exact plain _ hE
    | ix a b => simp only [evE] at hE; simp only [evT]; exact plain _ hE
    | op o a b => simp only [evE] at hE; simp only [evT]; exact plain _ hE
    | blt f es => simp only [evE] at hE; simp only [evT]; exact plain _ hE
    | callK f n ix es ks => simp only [evE] at hE; simp only [evT]; exact plain _ hE
    | all it tg a vs => simp only [evE] at hE; simp only [evT]; exact plain _ hE
    | any it tg a vs => simp only [evE] at hE; simp only [evT]; exact plain _ hE
    | cmp o a b => exfalso; unfold ckE at h; split at h <;> first | contradiction | cases h
    | chain o p a b c => exfalso; unfold ckE at h; split at h <;> first | contradiction | cases h
    | and a b => exfalso; unfold ckE at h; split at h <;> first | contradiction | cases h
    | or a b => exfalso; unfold ckE at h; split at h <;> first | contradiction | cases h
    | not a => exfalso; unfold ckE at h; split at h <;> first | contradiction | cases h
    | ite c a b => exfalso; unfold ckE at h; split at h <;> first | contradiction | cases h
    | _ => simp only [evT]; exact q_terr
  · by_cases hb : isBo x = true
    · exact (sW k e x h hb).pt
    · unfold ckE at h
      split at h
      any_goals first
        | (exfalso; exact hp rfl)
        | (exfalso; exact hb rfl)
      · rename_i o a b x p y pos
        simp only [Bool.and_eq_true, beq_iff_eq] at h
        obtain ⟨⟨⟨rfl, h0⟩, h1⟩, h2⟩ := h
        simp only [evT]
        exact q_tcmp (cm_ok k.un o) (sE k a x h1) (sE k b y h2) (no_mark (by simpa using h0))
      · rename_i o o' a b c x p p' y z pos
        simp only [Bool.and_eq_true, beq_iff_eq] at h
        obtain ⟨⟨⟨⟨⟨rfl, rfl⟩, h0⟩, h1⟩, h2⟩, h3⟩ := h
        simp only [evT]
        exact q_tchain (cm_ok k.un o) (cm_ok k.un o') (sE k a x h1) (sE k b y h2) (sE k c z h3) (no_mark (o := o') (by simpa using h0))
      · rename_i a x pos
        simp only [evT]
        exact q_tnot (sT k a x h)
      · rename_i c a b x y z pos
        simp only [Bool.and_eq_true] at h
        simp only [evT]
        exact q_tif (sT k c x h.1.1) (sT k a y h.1.2) (sT k b z h.2)
      · cases h
termination_by (sizeOf e, 2)
theorem sW {Γ : Gam} {X : Cx} {W : WX} (k : Cok G lv P0 P C Γ X W) (e : E) (x : Expr) (h : ckE G Γ e x = true) (hb : isBo x = true) : PW X x (tT X.K P W (evT C e)) := by
  unfold ckE at h
  split at h <;> first
    | (exact absurd hb Bool.false_ne_true)
    | skip
  · rename_i a b x y pos
    simp only [Bool.and_eq_true] at h
    simp only [evT]
    exact q_wand (sT k a x h.1) (pw_and1 (sT k b y h.2))
  · rename_i a b x y z r p
    simp only [Bool.and_eq_true] at h
    simp only [evT]
    exact q_wand (sT k a x h.1) (sW k b _ h.2 rfl)
  · rename_i a b x y pos
    simp only [Bool.and_eq_true] at h
    simp only [evT]
    exact q_wor (sT k a x h.1) (pw_or1 (sT k b y h.2))
  · rename_i a b x y z r p
    simp only [Bool.and_eq_true] at h
    simp only [evT]
    exact q_wor (sT k a x h.1) (sW k b _ h.2 rfl)
  · cases h
termination_by (sizeOf e, 1)
theorem sL {Γ : Gam} {X : Cx} {W : WX} (k : Cok G lv P0 P C Γ X W) (es : EL) (xs : List Expr) (h : ckL G Γ es xs = true) : PA X xs (tL X.K P W (evL C es)) := by
  unfold ckL at h
  split at h
  · simp only [evL]; exact q_nil
  · rename_i e es x xs
    simp only [Bool.and_eq_true, Bool.not_eq_true'] at h
    simp only [evL]
    exact q_cons (sE k e x h.1.2) (sL k es xs h.2) (star_cons xs X.env h.1.1)
  · cases h
termination_by (sizeOf es, 0)
theorem sK {Γ : Gam} {X : Cx} {W : WX} (k : Cok G lv P0 P C Γ X W) (es : EL) (xs : List Keyword) (h : ckK G Γ es xs = true) : PK X xs (tL X.K P W (evL C es)) := by
  unfold ckK at h
  split at h
  · simp only [evL]; exact q_knil
  · rename_i e es nm x kp xs
    simp only [Bool.and_eq_true] at h
    simp only [evL]
    exact q_kcons (sE k e x h.1) (sK k es xs h.2)
  · cases h
termination_by (sizeOf es, 0)
theorem sPP {Γ : Gam} {X : Cx} {W : WX} (k : Cok G lv P0 P C Γ X W) (ps : PL) (ks : List (Option Expr)) (vs : List Expr) (h : ckP G Γ ps ks vs = true) {pos : Pos} : PPs X pos ks vs ((evP C ps).map fun f => (tE X.K P W f.1, tE X.K P W f.2)) := by
  unfold ckP at h
  split at h
  · simp only [evP]; exact pps_nil
  · rename_i a b r x xs y ys
    simp only [Bool.and_eq_true] at h
    simp only [evP]
    exact pps_cons (sE k a x h.1.1) (sE k b y h.1.2) (sPP k r xs ys h.2)
  · cases h
termination_by (sizeOf ps, 0)
theorem sD {Γ : Gam} {X : Cx} {W : WX} (k : Cok G lv P0 P C Γ X W) (ps : PL) (ks : List (Option Expr)) (vs : List Expr) (hl : ks.length ≤ 15) (h : ckP G Γ ps ks vs = true) {pos : Pos} : PE X (.Dict ks vs pos) (tE X.K P W (evE C (.dict ps))) := by
  have z := fun pos => sPP k ps ks vs h (pos := pos)
  unfold ckP at h
  split at h
  · simp only [evE]; exact q_dnew
  · rename_i a b r x xs y ys
    simp only [evE]
    have z1 := z pos
    simp only [evP] at z1
    refine q_disp z1 ?_ ?_ (fun z => nomatch z) hl
    · exact (ckP_len (G := G) (Γ := Γ) (ps := .cons a b r) (ks := some x :: xs) (vs := y :: ys) (by unfold ckP; exact h)).1
    · exact (ckP_len (G := G) (Γ := Γ) (ps := .cons a b r) (ks := some x :: xs) (vs := y :: ys) (by unfold ckP; exact h)).2
  · cases h
termination_by (sizeOf ps, 1)
theorem sO {Γ : Gam} {X : Cx} {W : WX} (k : Cok G lv P0 P C Γ X W) (e : OE) (x : Option Expr) (h : ckO G Γ e x = true) : PO X x (tO X.K P W (evO C e)) := by
  unfold ckO at h
  split at h
  · simp only [evO]; exact q_non
  · rename_i e x
    simp only [evO]
    exact q_som (sE k e x h)
  · cases h
termination_by (sizeOf e, 0)
theorem sOT {Γ : Gam} {X : Cx} {W : WX} (k : Cok G lv P0 P C Γ X W) (e : OE) (x : List Expr) (h : ckT G Γ e x = true) : PTs X x (tT X.K P W (evOT C e)) := by
  unfold ckT at h
  split at h
  · simp only [evOT]; exact q_tsnil
  · rename_i e x
    simp only [evOT]
    exact q_tsone (sT k e x h)
  · cases h
termination_by (sizeOf e, 0)
theorem sI {Γ : Gam} {X : Cx} {W : WX} (k : Cok G lv P0 P C Γ X W) (e : IT) (tg : Expr) (x : Expr) (h : ckI G Γ tg e x = true) : PI X tg x (tI X.K P W (evI C e)) := by
  unfold ckI at h
  split at h
  · rename_i a x p y pos
    simp only [Bool.and_eq_true, beq_iff_eq, Bool.not_eq_true'] at h
    obtain ⟨⟨⟨⟨rfl, h2⟩, h3⟩, h4⟩, h5⟩ := h
    simp only [evI]
    exact q_rng1 (k.gl h2) (k.bl h3 (by decide)) (q_cons (sE k a y h5) q_nil (star_cons [] X.env h4)) (star_cons [] X.env h4)
  · rename_i a b x p y z pos
    simp only [Bool.and_eq_true, beq_iff_eq, Bool.not_eq_true'] at h
    obtain ⟨⟨⟨⟨⟨⟨rfl, h2⟩, h3⟩, h4⟩, h5⟩, h6⟩, h7⟩ := h
    simp only [evI]
    have e1 := star_cons [z] X.env h4
    have e2 := star_cons [] X.env h5
    exact q_rng2 (k.gl h2) (k.bl h3 (by decide)) (q_cons (sE k a y h6) (q_cons (sE k b z h7) q_nil e2) e1) (by rw [e1, e2]; rfl) (by rw [e2]; rfl)
  · rename_i a b c x p y z u pos
    simp only [Bool.and_eq_true, beq_iff_eq, Bool.not_eq_true'] at h
    obtain ⟨⟨⟨⟨⟨⟨⟨⟨rfl, h2⟩, h3⟩, h4⟩, h5⟩, h6⟩, h7⟩, h8⟩, h9⟩ := h
    simp only [evI]
    have e1 := star_cons [z, u] X.env h4
    have e2 := star_cons [u] X.env h5
    have e3 := star_cons [] X.env h6
    exact q_rng3 (k.gl h2) (k.bl h3 (by decide)) (q_cons (sE k a y h7) (q_cons (sE k b z h8) (q_cons (sE k c u h9) q_nil e3) e2) e1) e1 (star_all X.env pos (by simp [h5, h6]))
  · rename_i a x p y p2 z pos2 pos
    simp only [Bool.and_eq_true, beq_iff_eq, Bool.not_eq_true'] at h
    obtain ⟨⟨⟨⟨⟨⟨⟨rfl, rfl⟩, h3⟩, h4⟩, h5⟩, h6⟩, h7⟩, h8⟩ := h
    simp only [evI]
    exact q_rev1 (k.gl h3) (k.bl h5 (by decide)) (k.gl h4) (k.bl h6 (by decide)) (sE k a z h8) (star_cons [] X.env h7) (star_cons [] X.env rfl)
  · rename_i a x p y pos
    simp only [Bool.and_eq_true, beq_iff_eq, Bool.not_eq_true'] at h
    obtain ⟨⟨⟨⟨⟨rfl, h2⟩, h3⟩, h4⟩, h5⟩, h6⟩ := h
    obtain ⟨es, kk, tp, rfl⟩ := tup_of h5
    simp only [evI]
    exact q_enum (k.gl h2) (k.bl h3 (by decide)) (q_cons (sE k a y h6) q_nil (star_cons [] X.env h4)) (star_cons [] X.env h4)
  · simp only [evI]
    exact q_itv (sE k _ _ h)
  · cases h
termination_by (sizeOf e, 0)
end
end
end Q
end

section
set_option Elab.async false
set_option linter.all false
set_option maxRecDepth 100000
set_option maxHeartbeats 8000000
set_option autoImplicit false
/-! Statements do what their syntax does. -/
namespace Q
open PySem PySem.Spec PyProof.Rows L2
section
variable {G : SG} {lv : Nat} {P0 : Par}
theorem SGok.ctx {prog : Program} {w : World} {K : PySem.W.Frag} {mg : Str → Option Value} {base : Heap} {C : Ctx} (h : SGok G lv prog w K mg base P0 C) (x : Option (Nat × D)) (t : Sto → Res D) : SGok G lv prog w K mg base P0 { C with ex := x, th := t } :=
  ⟨h.lv2, h.fn, h.cl, h.sub, h.eg, h.ei, h.slf, h.fnm, h.bl, h.gl, h.gc, h.ho⟩
/-- the context of an except suite -/
theorem Cok.su {P : Par} {C : Ctx} {Γ : Gam} {X : Cx} {W : WX} (k : Cok G lv P0 P C Γ X W) {a dd : Addr} {oe : Obj} {c0 : Nat} {d0 : D} {pn : List (Addr × Obj)} {ex : Option (Nat × Str)} (hz : Zc (.ref (P.CA c0)) (some dd) oe) (hd : ∃ vs, oe.data = .fields vs)
    (hx : ∀ i n, ex = some (i, n) → Q.slot Γ i n = true ∧ lk Γ n = some .local ∧ okN n = true) : Cok G lv P0 (inX P a dd c0 d0) { C with ex := some (c0, d0), th := fun _ => .err } (suG Γ ex) (X.suite a ((a, oe) :: pn)) W0 where
  pb := k.pb
  G := k.G.ctx _ _
  N := k.N
  sc := k.sc
  nd := k.nd
  fk := k.fk
  fnA := k.fnA
  calm := fun h => nomatch h
  un := k.un
  gd := k.gd
  tk := takes0
  top := fun h => nomatch h
  lam := fun _ h => nomatch h
  th := fun a h => nomatch h
  ex := fun i n h => by
    obtain ⟨h1, h2, h3⟩ := hx i n h
    obtain ⟨d1, d2⟩ := okN_d h3
    refine ⟨c0, d0, rfl, fun W => ⟨fun f p0 p1 => ?_, fun c2 T f2 p p0 p2 pos hcl gT gI mI => ?_⟩⟩
    rotate_left
    · obtain ⟨m1, m2, _, _⟩ := k.G.cl c2 T f2 hcl
      refine q_isE (x := "") (X := X) (P := P) (a := a) (dd := dd) (oe := oe) (c0 := c0) (pn := pn) ?_ ?_ hz hd (k.slot h1) (.inl (by rw [k.sc]; exact h2)) d1 d2 gI mI gT m1 m2 rfl
      · rw [k.pb.2.1]; exact k.G.ei c0
      · rw [k.pb.2.1]; exact kit_exm (k.G.sub c0 c2) fun e => k.G.slf c0 c2 (Value.ref.inj e)
    refine q_thing (X := X) (P := P) (a := a) (dd := dd) (oe := oe) (c0 := c0) (pn := pn) ?_ (fun z => ?_) hz hd (k.slot h1) (.inl (by rw [k.sc]; exact h2)) d1 d2 rfl
    · rw [k.pb.2.1, k.pb.2.2]; exact k.G.eg c0
    · have : f = C.fn c0 := of_decide_eq_true z
      rw [this, k.G.fnm, k.pb.2.2]
theorem names_of {l : List Expr} {ns : List (Str × Pos)} : namesOf l = some ns → l = ns.map fun p => Expr.Name p.1 p.2 := by
  induction l generalizing ns with
  | nil => intro h; cases h; rfl
  | cons e r ih =>
    intro h
    unfold namesOf at h
    split at h
    · rename_i e1; cases e1
    · rename_i x p r' e1
      cases e1
      cases hr : namesOf r with
      | none => rw [hr] at h; cases h
      | some m =>
        rw [hr] at h
        cases h
        rw [ih hr]
        rfl
    · cases h
theorem cls_ok {P : Par} {C : Ctx} {Γ : Gam} {X : Cx} {W : WX} (k : Cok G lv P0 P C Γ X W) {cs : List Nat} {ty : Expr} (h : ckCls G Γ cs ty = true) : TestOk X ty (cs.map fun c => .ref (P.CA c)) := by
  have one : ∀ {x : Str} {c : Nat}, glB Γ x = true → okN x = true → (G.cls.lookup c).map (·.1) = some x → Names X x (.ref (P.CA c)) := fun {x c} h1 h2 h3 => by
    cases e : G.cls.lookup c with
    | none => rw [e] at h3; cases h3
    | some q =>
      obtain ⟨nm, f⟩ := q
      rw [e] at h3
      cases h3
      refine ⟨k.gl h1, (okN_d h2).1, .inl ?_⟩
      rw [k.pb.2.1]
      exact (k.G.cl c _ f e).1
  unfold ckCls at h
  split at h
  · rename_i x p
    split at h
    · rename_i c
      simp only [Bool.and_eq_true, beq_iff_eq] at h
      exact test_one (one h.1.1 h.1.2 h.2)
    · cases h
  · rename_i xs kk p
    split at h
    · rename_i l e
      simp only [Bool.and_eq_true, decide_eq_true_eq, beq_iff_eq, List.all_eq_true] at h
      obtain ⟨⟨⟨h1, h2⟩, h3⟩, h4⟩ := h
      rw [names_of e]
      refine test_tup (fun q hq => ?_) (by rw [List.length_map]; exact h3) (by rw [List.length_map]; omega)
      rw [List.zip_map_right] at hq
      obtain ⟨r, hr, rfl⟩ := List.mem_map.mp hq
      obtain ⟨⟨h5, h6⟩, h7⟩ := h4 r hr
      exact one h5 h6 h7
    · cases h
  · cases h
mutual
theorem sTg' {P : Par} {C : Ctx} {Γ : Gam} {X : Cx} {W : WX} (k : Cok G lv P0 P C Γ X W) : ∀ (t : Tg) (x : Expr), ckTg Γ t x = true → PG X x (tP X.K P (gT t))
  | .nm i, x, h => by
    unfold ckTg at h
    split at h
    · rename_i i' x p e
      cases e
      rw [Bool.and_eq_true] at h
      obtain ⟨l1, l2⟩ := k.loc h.2
      exact q_pgn k.nd (k.slot h.1) l1 l2
    · rename_i e; cases e
    · cases h
  | .tp l, x, h => by
    unfold ckTg at h
    split at h
    · rename_i e; cases e
    · rename_i l' xs kk p e
      cases e
      rw [Bool.and_eq_true] at h
      obtain ⟨h1, h2⟩ := ckTgs_len h.2
      exact q_pgtup (k.calm h.1).1 (sTgs' k l xs h.2) (by rw [asg_len, h1]) (asg_plain X.env h2)
    · cases h
theorem sTgs' {P : Par} {C : Ctx} {Γ : Gam} {X : Cx} {W : WX} (k : Cok G lv P0 P C Γ X W) : ∀ (t : TgL) (xs : List Expr), ckTgs Γ t xs = true → PGs X xs (tPs X.K P (gTs t))
  | .nil, [], _ => q_pgnil
  | .nil, _ :: _, h => by simp [ckTgs] at h
  | .cons t l, [], h => by simp [ckTgs] at h
  | .cons t l, x :: xs, h => by
    simp only [ckTgs, Bool.and_eq_true, Bool.not_eq_true'] at h
    exact q_pgcons (sTg' k t x h.1.2) (sTgs' k l xs h.2) (by rw [asg_each X.env h.1.1 xs]; rfl)
end
theorem bind_then {α β : Type} {r : Res α} {f : α → Sto → Res β} {env : Ev} {g : β → Sto → SR} : (r.bind f).then env g = r.then env fun a s => (f a s).then env g := by
  cases r <;> rfl
theorem lc_inv {Γ : Gam} {e : E} {elt : Expr} {gens : List Comprehension} {scope : Scope} {pos : Pos} (h : ckE G Γ e (.ListComp elt gens scope pos) = true) : ∃ it tg t e' vs tx ix ifs, e = .lc it tg t e' vs ∧ gens = [⟨tx, ix, ifs, 0⟩] ∧ Γ.calm = true ∧ blkC Γ.N Γ.sc scope (ownOf Γ vs) = true ∧ isSetE ix = false ∧ ckI G Γ tx it ix = true ∧ ckTg (blkG Γ scope) tg tx = true ∧ inTg vs tg = true ∧ ckT G (blkG Γ scope) t ifs = true ∧ ckE G (blkG Γ scope) e' elt = true := by
  unfold ckE at h
  split at h <;> first
    | contradiction
    | skip
  · rename_i e1
    cases e1
    simp only [Bool.and_eq_true, Bool.not_eq_true'] at h
    obtain ⟨⟨⟨⟨⟨⟨⟨c1, c2⟩, c3⟩, c4⟩, c5⟩, c6⟩, c7⟩, c8⟩ := h
    exact ⟨_, _, _, _, _, _, _, _, rfl, rfl, c1, c2, c3, c4, c5, c6, c7, c8⟩
theorem sw_lc {Γ : Gam} {elt : Expr} {gens : List Comprehension} {scope : Scope} {vp tp : Pos} {x : Str} {l : Nat} {env : Env} (hsc : env.scope = Γ.sc) (hk : Γ.sc.kind = .function) : swapsWith (.ListComp elt gens scope vp) (some (.Name x tp)) l env = pure (swB Γ scope vp x tp) := by
  have hb : env.blockKind = .function := by unfold Env.blockKind; rw [hsc, hk]; rfl
  have hl : env.kindOf x = lk Γ x := by unfold Env.kindOf lk; rw [hsc]
  unfold swapsWith swB
  simp only [hb, hl]
  rfl
mutual
theorem sS {P : Par} {C : Ctx} {Γ : Gam} {X : Cx} {W : WX} (k : Cok G lv P0 P C Γ X W) (s : S) (x : Stmt) (h : ckS G Γ s x = true) : PS X x (tS X.K P W (evS C s)) := by
  unfold ckS at h
  split at h
  · rename_i e x pos
    simp only [Bool.and_eq_true, Bool.not_eq_true'] at h
    simp only [evS]
    exact q_expr (sE k e x h.2) (no_swap _ _ _ h.1)
  · rename_i e x pos
    simp only [evS]
    exact q_ret (sE k e x h)
  · simp only [evS]; exact q_retN
  · rename_i i e x tp v pos
    simp only [Bool.and_eq_true] at h
    obtain ⟨⟨⟨h1, h2⟩, h3⟩, h4⟩ := h
    obtain ⟨l1, l2⟩ := k.loc h2
    simp only [evS]
    by_cases hc : isComp v = true
    · split at h4
      · rename_i elt gens scope vp
        obtain ⟨it, tg, t, e', vs, tx, ix, ifs, rfl, rfl, c1, c2, c3, c4, c5, c6, c7, c8⟩ := lc_inv h3
        cases hsw : swB Γ scope vp x tp with
        | false => exact q_set k.nd (k.slot h1) l1 (sE k _ _ h3) (by rw [sw_lc k.sc k.fk, hsw]) l2
        | true =>
          have ok : BlkOk X.N X.env.scope scope (ownOf Γ vs) := by rw [k.N, k.sc]; exact blkOk_by c2
          have ho : (ownOf Γ vs).map (·.2) = vs := by
            unfold ownOf
            rw [List.map_map]
            exact List.map_id _
          have hl : X.env.scope.names.lookup x = some .local := by
            unfold swB lk at hsw
            simp only [Bool.and_eq_true, beq_iff_eq] at hsw
            rw [k.sc]
            exact hsw.1.1
          have z := q_setLc (X := X) (P := P) (W := W) (own := ownOf Γ vs) (i := i) (spos := pos) (k.calm c1).1 k.nd (k.slot h1) hl (by rw [sw_lc k.sc k.fk, hsw]) (sI k it tx ix c4) ok
            (fun s H L cl fp => sTg (k.blk ok.kind c1 s H L cl fp) c1 tg tx c5 (by rw [ho]; exact c6)) (fun s H L cl fp => sOT (k.blk ok.kind c1 s H L cl fp) t ifs c7) (fun s H L cl fp => sE (k.blk ok.kind c1 s H L cl fp) e' elt c8) (no_fold X.env c3)
          rw [ho] at z
          simp only [evE]
          exact z
      · rw [hc] at h4; cases h4
    · have hc' : isComp v = false := by simpa using hc
      exact q_set k.nd (k.slot h1) l1 (sE k e v h3) (no_swap _ _ _ hc') l2
  · -- a, b = ..
    rename_i t e xs kk tp v pos
    simp only [Bool.and_eq_true, beq_iff_eq, Bool.not_eq_true'] at h
    obtain ⟨⟨⟨h1, h2⟩, h3⟩, h4⟩ := h
    simp only [evS]
    exact q_asg (sE k e v h3) (sTg' k t _ h1) (no_swap1 _ _ h2) (sw_ok k.sc k.fk h4) rfl
  · rename_i i j a b x px y py kk tp u v k2 p2 pos
    simp only [Bool.and_eq_true, beq_iff_eq, Bool.not_eq_true', bne_iff_ne, ne_eq] at h
    obtain ⟨⟨⟨⟨⟨⟨⟨⟨⟨⟨h1, h2⟩, h3⟩, h4⟩, h5⟩, h6⟩, h7⟩, h8⟩, h9⟩, h10⟩, h11⟩ := h
    refine ps_same (q_par2 (k.calm h1).1 k.nd (k.slot h2) (k.slot h3) h4 (by rw [k.sc]; exact h5) (by rw [k.sc]; exact h6) (q_cons (sE k a u h9) (q_cons (sE k b v h10) q_nil (star_cons [] X.env h8)) (star_cons [v] X.env h7)) (sw_ok k.sc k.fk h11) (no_swap1 _ _ rfl)) fun env st => ?_
    simp only [evS]
    cases evE C a env st with
    | ok d1 s1 =>
      simp only [Res.bind, Res.then]
      cases evE C b env s1 <;> rfl
    | exc c d s1 => rfl
    | err => rfl
  · rename_i i j l a b c x px y py z pz kk tp u v w k2 p2 pos
    simp only [Bool.and_eq_true, beq_iff_eq, Bool.not_eq_true', bne_iff_ne, ne_eq] at h
    obtain ⟨⟨⟨⟨⟨⟨⟨⟨⟨⟨⟨⟨⟨⟨⟨⟨h1, h2⟩, h3⟩, h4⟩, h5⟩, h6⟩, h7⟩, h8⟩, h9⟩, h10⟩, h11⟩, h12⟩, h13⟩, h14⟩, h15⟩, h16⟩, h17⟩ := h
    refine ps_same (q_par3 (k.calm h1).1 k.nd (k.slot h2) (k.slot h3) (k.slot h4) h5 h6 h7 (by rw [k.sc]; exact h8) (by rw [k.sc]; exact h9) (by rw [k.sc]; exact h10) (q_cons (sE k a u h14) (q_cons (sE k b v h15) (q_cons (sE k c w h16) q_nil (star_cons [] X.env h13)) (star_cons [w] X.env h12)) (star_cons [v, w] X.env h11)) (sw_ok k.sc k.fk h17) (no_swap1 _ _ rfl)) fun env st => ?_
    simp only [evS]
    cases evE C a env st with
    | ok d1 s1 =>
      simp only [Res.bind, Res.then]
      cases evE C b env s1 with
      | ok d2 s2 =>
        simp only [Res.bind, Res.then]
        cases evE C c env s2 <;> rfl
      | exc c d s1 => rfl
      | err => rfl
    | exc c d s1 => rfl
    | err => rfl
  · rename_i i o e x px p y pos
    simp only [Bool.and_eq_true, beq_iff_eq] at h
    obtain ⟨⟨⟨rfl, h2⟩, h3⟩, h4⟩ := h
    obtain ⟨l1, l2⟩ := k.loc h3
    simp only [evS]
    exact q_aug k.nd (k.slot h2) l1 l2 (aug_ok o) (sE k e y h4)
  · rename_i o i v x y p z pos
    simp only [Bool.and_eq_true] at h
    simp only [evS]
    exact q_put k.un (sE k o x h.1.1) (sE k i y h.1.2) (sE k v z h.2) (by cases z <;> rfl)
  · rename_i c a b x y z pos
    simp only [Bool.and_eq_true] at h
    simp only [evS]
    exact q_sif (sT k c x h.1.1) (sSs k a y h.1.2) (sSs k b z h.2)
  · rename_i t it b tx ix body pos
    simp only [Bool.and_eq_true, Bool.not_eq_true'] at h
    obtain ⟨⟨⟨⟨h1, h2⟩, h3⟩, h4⟩, h5⟩ := h
    simp only [evS]
    exact q_for (k.calm h1).2.2.2.2 (k.calm h1).1 (sI k it tx ix h3) (sTg' k t tx h4) (sSs k b body h5) (no_fold X.env h2)
  · rename_i c b x body pos
    simp only [Bool.and_eq_true] at h
    simp only [evS]
    exact q_while C.fuel (k.calm h.1.1).2.2.2.2 (sT k c x h.1.2) (sSs k b body h.2)
  · simp only [evS]; exact q_break
  · simp only [evS]; exact q_cont
  · simp only [evS]; exact q_pass
  · rename_i c e x p y pos pos2
    simp only [Bool.and_eq_true, beq_iff_eq, Bool.not_eq_true'] at h
    obtain ⟨⟨⟨⟨h1, h2⟩, h3⟩, h4⟩, h5⟩ := h
    cases e1 : G.cls.lookup c with
    | none => rw [e1] at h3; cases h3
    | some q =>
      obtain ⟨nm, f⟩ := q
      rw [e1] at h3
      cases h3
      obtain ⟨g1, g2, g3, fI, fd, ps, g4, g5, g6, g7, g8⟩ := k.G.cl c _ f e1
      obtain ⟨c1, c2, c3, c4, c5⟩ := k.calm h1
      have hr : Room (1 + 1) X.A := c2.mono (Nat.le_trans k.G.lv2 (Nat.le_add_right _ _))
      rw [← k.pb.2.1] at g1 g3 g4 g6
      rw [← k.pb.2.2] at g6
      refine ps_same (q_raise (c := c) rfl rfl g3 g4 g5 g6 g7 hr g8 (k.gl h2) g1 c1 k.tk (q_cons (sE k e y h5) q_nil (star_cons [] X.env h4)) g2 (star_cons [] X.env h4) (fun _ => rfl)) fun env st => ?_
      simp only [evS]
      cases evE C e env st <;> rfl
  · rename_i b hs body h0 hds pos
    simp only [Bool.and_eq_true] at h
    obtain ⟨⟨⟨h1, h2⟩, h3⟩, h4⟩ := h
    obtain ⟨t1, t2, t3⟩ := k.top h2
    obtain ⟨c1, c2, c3, c4, c5⟩ := k.calm h1
    simp only [evS]
    exact q_try t1 t2 k.nd k.tk (fun a b => by rw [k.pb.2.1]; exact k.G.sub a b) c3 c4 (fun W' pn xe tk ow => sSs (k.tr tk ow t3) b body h3) (sH k hs (h0 :: hds) h4)
  · cases h
termination_by (sizeOf s, 0)
theorem sSs {P : Par} {C : Ctx} {Γ : Gam} {X : Cx} {W : WX} (k : Cok G lv P0 P C Γ X W) (s : SL) (x : List Stmt) (h : ckSs G Γ s x = true) : PSs X x (tS X.K P W (evSs C s)) := by
  unfold ckSs at h
  split at h
  · simp only [evSs]; exact q_snil
  · rename_i s r x xs
    simp only [Bool.and_eq_true] at h
    simp only [evSs]
    exact q_scons (sS k s x h.1) (sSs k r xs h.2)
  · cases h
termination_by (sizeOf s, 0)
theorem sH {P : Par} {C : Ctx} {Γ : Gam} {X : Cx} {W : WX} (k : Cok G lv P0 P C Γ X W) (s : HL) (x : List ExceptHandler) (h : ckH G Γ s x = true) : ClsOk X x ((evH C s).map (clOf X.K P)) := by
  unfold ckH at h
  split at h
  · simp only [evH]; exact .nil
  · rename_i cs su r ty b0 suite p hds
    simp only [Bool.and_eq_true] at h
    obtain ⟨⟨h1, h2⟩, h3⟩ := h
    simp only [evH, List.map_cons]
    exact .one (c := clOf X.K P (cs, none, fun c d => evSs { C with ex := some (c, d), th := fun _ => .err } su)) (cls_ok k h1) rfl (su_ok fun a dd oe c0 d0 pn hz hd => sSs (k.su (ex := none) hz hd fun i n z => by cases z) su (b0 :: suite) h2) (sH k r hds h3)
  · rename_i cs i su r ty n b0 suite p hds
    simp only [Bool.and_eq_true, beq_iff_eq] at h
    obtain ⟨⟨⟨⟨⟨h1, h2⟩, h3⟩, h4⟩, h5⟩, h6⟩ := h
    simp only [evH, List.map_cons]
    refine .as (c := clOf X.K P (cs, some i, fun c d => evSs { C with ex := some (c, d), th := fun _ => .err } su)) (cls_ok k h1) rfl (k.slot h2) (by show X.env.scope.names.lookup n = _; rw [k.sc]; exact h3) (su_ok fun a dd oe c0 d0 pn hz hd => sSs (k.su hz hd fun i' n' z => ?_) su (b0 :: suite) h5) (sH k r hds h6)
    cases z
    exact ⟨h2, h3, h4⟩
  · cases h
termination_by (sizeOf s, 0)
end
end
end Q
end

section
set_option Elab.async false
set_option linter.all false
set_option maxRecDepth 100000
set_option maxHeartbeats 2000000
set_option autoImplicit false
/-! The end of a law: its function by data, called at a script. -/
namespace Q
open PySem PySem.Spec PyProof.Rows L2
/-- what is tracked at the call: the script, if it is not of the written part, and the tables -/
def hp0 (K : PySem.W.Frag) (a : Addr) (vs : List Value) (ns : List Int) (ts : List Addr) : Hp := fun b =>
  if b = a ∧ K.lookup a = none then some (.frz { cls := .type "list", data := .seq vs.toArray } (.lst (ns.map V.int))) else if b ∈ ts then some (.tbl #[]) else none
/-- the wish: the script's list is read off, the tables are empty -/
def LawF (P : Program) (w : World) (K : PySem.W.Frag) (mg : Str → Option Value) (base : Heap) (fa : Addr) (cs : List (Addr × Addr)) (fd : FuncData) (x : Str) (n : Nat) : Prop :=
  ∀ (s : Shared) (H : Hp) (a : Addr) (ns : List Int) (us : List Value), Env0 P w K mg base callerA [] s H → BindsTo s fd ⟨us, []⟩ ([x].zip us) → Vals [.ref a] us → SqF K H a (ns.map V.int) → (∀ p ∈ cs, H p.2 = some (.tbl #[])) → ns.length ≤ n → (∀ z ∈ ns, Builtin.Int.intBits z ≤ 1048576) →
    codeAny (model P w) callerA (.call (.ref fa) ⟨us, []⟩) (CR (L2.CX P w) [] P w H s (fun v _ => v = .bl true) fun _ _ _ => False) s
section
variable {P : Program} {w : World} {K : PySem.W.Frag} {mg mb : Str → Option Value} {fa a : Addr} {cs : List (Addr × Addr)} {fd : FuncData} {x : Str} {s : Shared} {vs : List Value} {ns : List Int} {n : Nat}
theorem law_callQ (kin : K.In s.heap) (hns : s.heap.Ns mainGlobals mg) (hbl : s.heap.Ns builtinsNs mb) (hbb : ∀ x : Str, x ≠ "__name__" → mb x = bootBuiltins x) (hlim : s.heap.NoLimit) (hgen : s.gens = #[]) (tb : ∀ p ∈ cs, s.heap.get? p.2 = some { cls := .none, data := .fields #[] }) (nt : ∀ p ∈ cs, K.lookup p.2 = none) (hd : ∀ p ∈ cs, PySem.W.CodeHd s.heap p.1 p.2)
    (hbm : ∃ (bm : Addr) (ob : Obj), mg "__builtins__" = some (.ref bm) ∧ bm ≠ builtinsNs ∧ s.heap.get? bm = some ob ∧ ob.cls = .type "module" ∧ ob.dict = some builtinsNs ∧ ob.data = .plain) (ha : s.heap.get? a = some { cls := .type "list", data := .seq vs.toArray }) (hi : IntsAre vs ns) (hl : ns.length ≤ n) (hn : n ≤ sizeLine) (hbits : ∀ z ∈ ns, Builtin.Int.intBits z ≤ 1048576)
    (F : ∀ base : Heap, K.In base → base.Ns mainGlobals mg → (∀ p ∈ cs, LamX.TabB base mg p.1 p.2) → LawF P w K mg base fa cs fd x n) (bnd : ∀ (s : Shared) (u : Value), BindsTo s fd ⟨[u], []⟩ [(x, u)]) :
    codeAny (model P w) callerA (.call (.ref fa) ⟨[.ref a], []⟩) (fun r s' => r = .ok (.ret (.bool true)) ∧ OldK s.heap s'.heap ∧ s'.os = s.os ∧ AllBare s'.gens) s := by
  have rv := vals_ints hi
  have ll := hi.length
  let ts := cs.map (·.2)
  have inT : ∀ p ∈ cs, p.2 ∈ ts := fun p hp => List.mem_map.mpr ⟨p, hp, rfl⟩
  have ofT : ∀ {b : Addr}, b ∈ ts → ∃ p ∈ cs, p.2 = b := fun hb => by obtain ⟨p, hp, e⟩ := List.mem_map.mp hb; exact ⟨p, hp, e⟩
  have getT : ∀ {b : Addr}, b ∈ ts → s.heap.get? b = some { cls := .none, data := .fields #[] } := fun hb => by
    obtain ⟨p, hp, rfl⟩ := ofT hb
    exact tb p hp
  have naT : a ∉ ts := fun z => by
    have q := getT z
    rw [ha] at q
    exact nomatch (congrArg Obj.data (Option.some.inj q) : Data.seq vs.toArray _ = Data.fields #[])
  obtain ⟨H, eH⟩ : ∃ H, H = hp0 K a vs ns ts := ⟨_, rfl⟩
  have atT : ∀ {b : Addr}, b ∈ ts → H b = some (.tbl #[]) := fun {b} hb => by
    rw [eH]
    unfold hp0
    have nb : ¬ (b = a ∧ K.lookup a = none) := fun z => naT (by rw [← z.1]; exact hb)
    rw [if_neg nb, if_pos hb]
  have only : ∀ {b : Addr} {u : HO}, H b = some u → (b = a ∧ K.lookup a = none ∧ u = .frz { cls := .type "list", data := .seq vs.toArray } (.lst (ns.map V.int))) ∨ (b ∈ ts ∧ u = .tbl #[]) := fun {b u} e => by
    rw [eH] at e
    unfold hp0 at e
    split at e
    · rename_i q; cases e; exact .inl ⟨q.1, q.2, rfl⟩
    · split at e
      · rename_i q; cases e; exact .inr ⟨q, rfl⟩
      · cases e
  have sq : SqF K H a (ns.map V.int) := by
    cases hk : K.lookup a with
    | none => exact .inl ⟨_, by rw [eH]; unfold hp0; rw [if_pos ⟨rfl, hk⟩]⟩
    | some o =>
      have e := kin a o hk
      rw [ha] at e
      cases e
      exact .inr ⟨_, vs.toArray, _, hk, rfl, rfl, rfl, by rw [List.size_toArray, ll]; exact Nat.le_trans hl hn, by simpa using rv⟩
  have hok : HOk P w H s.heap := fun b u e => by
    rcases only e with ⟨rfl, _, rfl⟩ | ⟨hb, rfl⟩
    · exact ⟨ha, by rw [List.length_map]; exact Nat.le_trans hl hn, vs, _, rv, ha⟩
    · exact getT hb
  -- what is neither a sequence nor a record without fields is not tracked
  have off : ∀ {b : Addr} {o : Obj}, s.heap.get? b = some o → (∀ us k, o.data ≠ .seq us k) → o.data ≠ .fields #[] → H b = none := fun {b o} e n1 n2 => by
    cases q : H b with
    | none => rfl
    | some u =>
      rcases only q with ⟨rfl, _, _⟩ | ⟨hb, _⟩
      · rw [ha] at e; cases e; exact (n1 _ _ rfl).elim
      · rw [getT hb] at e; cases e; exact (n2 rfl).elim
  have offD : ∀ {b : Addr} {o : Obj} {es : Array DictEntry} {k : Nat}, s.heap.get? b = some o → o.data = .dict es k → H b = none := fun e d => off e (fun us k z => by rw [d] at z; cases z) fun z => by rw [d] at z; cases z
  have nsB : ∀ {b : Addr} {m : Str → Option Value}, s.heap.Ns b m → (hidT s.heap H).Ns b m := fun ⟨o, es, k, e, d, r⟩ => ⟨o, es, k, hidT_get e (offD e d), d, r⟩
  have kB : K.In (hidT s.heap H) := fun b o e => hidT_get (kin b o e) (by
    cases q : H b with
    | none => rfl
    | some u =>
      rcases only q with ⟨rfl, z, _⟩ | ⟨hb, _⟩
      · rw [z] at e; cases e
      · obtain ⟨p, hp, rfl⟩ := ofT hb
        rw [nt p hp] at e; cases e)
  have gl : ∀ {b : Addr}, b = mainGlobals → ∃ (o : Obj) (es : Array DictEntry) (k : Nat), s.heap.get? b = some o ∧ o.data = .dict es k := fun {b} e => by
    subst e
    obtain ⟨o, es, k, h1, h2, _⟩ := hns
    exact ⟨o, es, k, h1, h2⟩
  have tB : ∀ p ∈ cs, LamX.TabB (hidT s.heap H) mg p.1 p.2 := fun p hp => by
    refine ⟨?_, ?_, fun z => ?_⟩
    · obtain ⟨o, us, file, tf, flags, tg, inF, text, tt, e1, r1, r2, r3, r4⟩ := hd p hp
      exact ⟨o, us, file, tf, flags, tg, inF, text, tt, hidT_get e1 (off e1 (fun us k z => by rw [r2] at z; cases z) fun z => by rw [r2] at z; cases z; simp at r3), r1, r2, r3, r4⟩
    · obtain ⟨bm, ob, b1, b2, b3, b4, b5, b6⟩ := hbm
      have nP : bm ≠ p.2 := fun q => by rw [q, tb p hp] at b3; cases b3; cases b6
      have nG : bm ≠ mainGlobals := fun q => by
        obtain ⟨o, es, k, e, dd⟩ := gl q
        rw [b3] at e; cases e; rw [b6] at dd; cases dd
      exact ⟨bm, ob, b1, b2, nG, nP, hidT_get b3 (off b3 (fun us k z => by rw [b6] at z; cases z) fun z => by rw [b6] at z; cases z), b4, b5, b6⟩
    · obtain ⟨o, es, k, e, dd⟩ := gl rfl
      rw [z, tb p hp] at e; cases e; cases dd
  have hM : L2.Mod K mg (hidT s.heap H) := ⟨kB, nsB hns, ⟨mb, nsB hbl, hbb⟩, let ⟨mc, h1, h2⟩ := hlim; ⟨mc, nsB h1, h2⟩⟩
  have e0 : Env0 P w K mg (hidT s.heap H) callerA [] s H := ⟨rfl, hM, fun b o e => of_hidT e, Nat.le_of_eq (hidT_size _ _), trivial, fun b hb => (nomatch (show b ∈ ([] : List Addr) from hb)), hok, .of_eq hgen⟩
  refine codeAny_mono (F _ kB (nsB hns) tB s H a ns [.ref a] e0 (bnd s (.ref a)) (.cons rfl .nil) sq (fun p hp => atT (inT p hp)) hl hbits) fun r s' h => ?_
  cases r with
  | error e =>
    obtain ⟨_, _, _, _, _, _, _, _, _, _, _, _, z⟩ := h
    exact z.elim
  | ok fl =>
    cases fl with
    | next => exact False.elim h
    | brk => exact False.elim h
    | cont => exact False.elim h
    | ret u =>
      obtain ⟨v, H', os, bare, un, hok', r', q⟩ := h
      obtain rfl : v = .bl true := q
      obtain rfl : u = Value.bool true := r'
      have nof : ∀ b : Addr, b ∉ frs ([] : List Env) := fun b z => nomatch (show b ∈ ([] : List Addr) from z)
      have stays : ∀ b o, b ∉ ts → s.heap.get? b = some o → s'.heap.get? b = some o := fun b o nb e => by
        cases q : H b with
        | none => exact un.keep b o e q (nof b) (by simp)
        | some u =>
          rcases only q with ⟨rfl, _, rfl⟩ | ⟨hb, _⟩
          · have z2 := un.frzs b _ _ q
            obtain ⟨e2, _⟩ := hok' b _ z2
            rw [ha] at e; cases e
            exact e2
          · exact absurd hb nb
      have grown : ∀ {b : Addr}, b ∈ ts → ∃ more : Array Value, s'.heap.get? b = some { cls := .none, data := .fields more } := fun {b} hb => by
        obtain ⟨more, z⟩ := un.tbls b #[] (atT hb)
        exact ⟨_, hok' b _ z⟩
      refine ⟨rfl, ⟨fun b o e => ?_, fun b o e => ?_⟩, os, bare⟩
      · by_cases hb : b ∈ ts
        · obtain ⟨p, hp, rfl⟩ := ofT hb
          obtain ⟨more, hm⟩ := grown hb
          rw [tb p hp] at e
          cases e
          exact .inr (.inl ⟨((hd p hp).tab (tb p hp)).isCodeTable, rfl, #[], more, rfl, by rw [Array.empty_append]; exact hm⟩)
        · exact .inl (stays b o hb e)
      · by_cases hb : b ∈ ts
        · obtain ⟨more, hm⟩ := grown hb
          exact ⟨_, hm⟩
        · exact ⟨o, stays b o hb e⟩
end
/-- what is known of the law at the head's heap -/
def LawQ (l : PySem.W.OpenLaw) (w : World) (K : PySem.W.Frag) (n : Nat) (x : Str) (mg : Str → Option Value) (fa : Addr) (h : Heap) : Prop :=
  ∃ (fd : FuncData) (cs : List (Addr × Addr)), (∀ p ∈ cs, h.get? p.2 = some { cls := .none, data := .fields #[] }) ∧ (∀ p ∈ cs, K.lookup p.2 = none) ∧ (∀ p ∈ cs, PySem.W.CodeHd h p.1 p.2) ∧ (∀ (s : Shared) (u : Value), BindsTo s fd ⟨[u], []⟩ [(x, u)]) ∧
    ∀ base : Heap, K.In base → base.Ns mainGlobals mg → (∀ p ∈ cs, LamX.TabB base mg p.1 p.2) → LawF l.prog w K mg base fa cs fd x n
theorem walk_ofQ {l : PySem.W.OpenLaw} {n : Nat} {q : Program} {loose : List Str} {XP : (Str → Option Value) → Heap → Prop} {YP : World → Heap → Prop} {d : DefRec} {K : Params → PySem.W.Frag} {x : Str} (hm : l.most = some n) (hm2 : n ≤ sizeLine) (hdf : d.params.defaults = []) (hY : ∀ (w : World) (h : Heap), YP w h → (K w.params).In h)
    (F : ∀ (w : World) (mg : Str → Option Value) (fa : Addr) (h : Heap), YP w h → (K w.params).In h → h.Ns mainGlobals mg → mg d.name = some (.ref fa) → LawQ l w (K w.params) n x mg fa h) : PySem.W.WalkO q loose XP YP l.row.toRowW d [] (fun f vs => PySem.call f vs) := by
  refine Att.attach_callB hm hdf fun w s0 s1 mg mb fa o pm cd doc a vs ns G Y ho hd hcd hmg hobj hints hlen hbits hg => ?_
  obtain ⟨fd, cs, t1, t2, t3, t4, t5⟩ := F w mg fa _ Y (hY w _ Y) G.T.g hmg
  exact law_callQ (hY w _ Y) G.T.g G.T.b G.T.builtins G.T.nolimit hg t1 t2 t3 G.T.bmain hobj hints hlen hm2 hbits t5 t4
/-- the table of the def at fa is empty -/
def OwnTb (K : PySem.W.Frag) (fa : Addr) (h : Heap) : Prop := ∀ (c P : Addr) (o : Obj) (fd : FuncData) (e : Value) (dd : Option Addr) (us : Array Value) (sl : Array (Option Value)), K.lookup fa = some o → o.data = .func fd → fd.code = .ref c → K.lookup c = some ⟨e, dd, .fields us, sl⟩ → us[11]? = some (.ref P) →
  h.get? P = some { cls := .none, data := .fields #[] }
theorem walk_ofQT {l : PySem.W.OpenLaw} {n : Nat} {q : Program} {loose : List Str} {XP : (Str → Option Value) → Heap → Prop} {YP : World → Heap → Prop} {d : DefRec} {K : Params → PySem.W.Frag} {x : Str} (hm : l.most = some n) (hm2 : n ≤ sizeLine) (hdf : d.params.defaults = []) (names : List Str) (hn : names.all (fun nm => (recsOf q).any fun e => e.name == nm) = true) (hY : ∀ (w : World) (h : Heap), YP w h → (K w.params).In h)
    (F : ∀ (w : World) (mg : Str → Option Value) (fa : Addr) (h : Heap), YP w h → (K w.params).In h → h.Ns mainGlobals mg → mg d.name = some (.ref fa) → (∀ nm ∈ names, ∀ f2 : Addr, mg nm = some (.ref f2) → OwnTb (K w.params) f2 h) → LawQ l w (K w.params) n x mg fa h) : PySem.W.WalkO q loose XP YP l.row.toRowW d [] (fun f vs => PySem.call f vs) := by
  refine Att.attach_callB hm hdf fun w s0 s1 mg mb fa o pm cd doc a vs ns G Y ho hd hcd hmg hobj hints hlen hbits hg => ?_
  have KX := hY w _ Y
  have own : ∀ nm ∈ names, ∀ f2 : Addr, mg nm = some (.ref f2) → OwnTb (K w.params) f2 s1.heap := fun nm hnm f2 hf2 c P o1 fd1 e dd us sl k1 k2 k3 k4 k5 => by
    have hr := List.all_eq_true.mp hn nm hnm
    obtain ⟨dL, hmem, hn1⟩ := List.any_eq_true.mp hr
    have hn2 : dL.name = nm := beq_iff_eq.mp hn1
    obtain ⟨a2, o2, fd2, c2, P2, h1, h2, h3, h4, h5, ⟨oc, vc, e1, e2, e3, e4⟩, hP⟩ := G.T.tab dL hmem
    rw [hn2, hf2] at h1
    cases h1
    rw [KX _ _ k1] at h2
    cases h2
    rw [k2] at h3
    cases h3
    rw [k3] at h4
    cases h4
    rw [KX _ _ k4] at e1
    cases e1
    cases e3
    rw [k5] at e4
    cases e4
    exact hP
  obtain ⟨fd, cs, t1, t2, t3, t4, t5⟩ := F w mg fa _ Y KX G.T.g hmg own
  exact law_callQ KX G.T.g G.T.b G.T.builtins G.T.nolimit hg t1 t2 t3 G.T.bmain hobj hints hlen hm2 hbits t5 t4
end Q
end

section
set_option Elab.async false
set_option linter.all false
set_option maxRecDepth 100000
set_option maxHeartbeats 2000000
set_option autoImplicit false
/-! Tables of functions; the law's own. -/
namespace Q
open PySem PySem.Spec PyProof.Rows L2
/-- the name of a lambda made in a def -/
def lamQ (qual nm : Str) : Str := qual ++ ".<locals>." ++ nm
structure Fd where
  N : List Str
  ps : List Str
  body : SL
  lam : Option Str := none
structure PT where
  sg : SG
  fd : List (Nat × Fd)
  hd : List Fd
  sub : Nat → Nat → Bool
  fn : Nat → Str
def hoC (T : PT) (fu : Nat) (ft : Nat → List D → Sto → Res D) (th : Sto → Res D) : Ctx := ⟨ft, fun _ _ _ => .err, th, fu, T.sub, T.fn, none⟩
def hoF (T : PT) (fu : Nat) (ft : Nat → List D → Sto → Res D) (h : Nat) (th : Sto → Res D) (st : Sto) : Res D := match T.hd[h]? with
  | some F => ofSR (evSs (hoC T fu ft th) F.body (envL F.N.length) st)
  | none => .err
def mkC (T : PT) (fu : Nat) (ft : Nat → List D → Sto → Res D) : Ctx := ⟨ft, hoF T fu ft, fun _ => .err, fu, T.sub, T.fn, none⟩
def callF (T : PT) (fu : Nat) : Nat → Nat → List D → Sto → Res D
  | 0, _, _, _ => .err
  | n + 1, f, ds, st => match T.fd.lookup f with
    | some F => ofSR (evSs (mkC T fu (callF T fu n)) F.body (env0 F.N.length ds) st)
    | none => .err
theorem lookup_mem {β : Type} {a : Nat} {b : β} : ∀ {l : List (Nat × β)}, l.lookup a = some b → (a, b) ∈ l
  | [], h => by cases h
  | (c, d) :: l, h => by
    rw [List.lookup_cons] at h
    split at h
    · rename_i e
      cases h
      rw [eq_of_beq e]
      exact List.mem_cons_self
    · exact List.mem_cons_of_mem _ (lookup_mem h)
def defG (F : Fd) (scope : Scope) : Gam := ⟨F.N, scope, true, true, true, F.lam, 2, none, none⟩
def hoG (F : Fd) (scope : Scope) (a : Str) : Gam := ⟨F.N, scope, true, true, true, none, 1, some a, none⟩
section
variable (T : PT) (prog : Program) (w : World) (K : PySem.W.Frag) (mg : Str → Option Value) (base : Heap) (P0 : Par)
def FnW (f : Nat) (nm : Str) (F : Fd) : Prop := ∃ (ad : Addr) (name qual : Str) (params : Arguments) (text : List Stmt) (scope : Scope) (dV kV doc pm cdv ct oc : Value) (an od : Option Addr) (osl : Array (Option Value)),
  mg nm = some (.ref ad) ∧ PySem.W.keepIn K (.ref ad) = true ∧ (nm == ("__debug__" : Str)) = false ∧ K.lookup ad = some ⟨oc, od, .func (PySem.W.fnOf name qual params text scope dV kV doc pm an cdv ct), osl⟩ ∧ PySem.W.codeIn K cdv qual = true ∧ FnScope F.N F.ps scope ∧
  (∀ us : List Value, us.length = F.ps.length → bindArgs (PySem.W.fnOf name qual params text scope dV kV doc pm an cdv ct) ⟨us, []⟩ = pure (F.ps.zip us)) ∧ (∀ (n : Nat) (ks : List Str) (ix : List Nat), (f, n, ks, ix) ∈ T.sg.kw → KwB (PySem.W.fnOf name qual params text scope dV kV doc pm an cdv ct) F.ps ks n ix) ∧
  ckSs T.sg (defG F scope) F.body text = true ∧ (∀ nm, F.lam = some nm → ∃ c t, cdv = .ref c ∧ LamX.TabB base mg c t ∧ (t, lamQ qual nm) ∈ P0.T ∧ ∀ p ∈ P0.T, p.1 = t → p.2 = lamQ qual nm)
def HoW (nm : Str) (F : Fd) : Prop := ∃ (a : Str) (g : Addr) (qual : Str) (params : Arguments) (text : List Stmt) (scope : Scope) (dV kV doc pm cdv ct oc : Value) (an od : Option Addr) (osl : Array (Option Value)),
  F.ps = [a] ∧ mg nm = some (.ref g) ∧ PySem.W.keepIn K (.ref g) = true ∧ (nm == ("__debug__" : Str)) = false ∧ K.lookup g = some ⟨oc, od, .func (PySem.W.fnOf nm qual params text scope dV kV doc pm an cdv ct), osl⟩ ∧ PySem.W.codeIn K cdv qual = true ∧ FnScope F.N [a] scope ∧ F.N[0]? = some a ∧ Vis scope a ∧ okN a = true ∧
  (∀ us : List Value, us.length = 1 → bindArgs (PySem.W.fnOf nm qual params text scope dV kV doc pm an cdv ct) ⟨us, []⟩ = pure ([a].zip us)) ∧ ckSs T.sg (hoG F scope a) F.body text = true
def ClW (c : Nat) (nm f : Str) : Prop := P0.FN c = f ∧ mg nm = some (.ref (P0.CA c)) ∧ (nm == ("__debug__" : Str)) = false ∧ OwnE K (P0.CA c) ∧ ∃ (fI : Addr) (fd : FuncData) (ps : List Str), PySem.W.findIn K (.ref (P0.CA c)) "__init__" = some (some (.ref fI)) ∧ PySem.W.typeIn K (.ref fI) = some (.type "function") ∧
  FnOk prog w K mg base (L2.CX prog w) 1 fI fd ps (InitSp (P0.CA c) (P0.FN c)) ∧ ps.length = 2 ∧ ∀ us : List Value, us.length = 2 → bindArgs fd ⟨us, []⟩ = pure (ps.zip us)
/-- all that is known of the written part -/
structure Wld : Prop where
  fn : ∀ (f : Nat) (nm : Str) (ar : Nat), T.sg.fn.lookup f = some (nm, ar) → ∃ F, T.fd.lookup f = some F ∧ F.ps.length = ar ∧ FnW T K mg base P0 f nm F
  ho : ∀ (h : Nat) (nm : Str), T.sg.ho[h]? = some nm → ∃ F, T.hd[h]? = some F ∧ HoW T K mg nm F
  cl : ∀ (c : Nat) (nm f : Str), T.sg.cls.lookup c = some (nm, f) → ClW prog w K mg base P0 c nm f
  sub : ∀ a b, PySem.W.exmOne K (.ref (P0.CA a)) (.ref (P0.CA b)) = some (T.sub a b)
  eg : ∀ c, ExG K (P0.CA c) (P0.FN c)
  ei : ∀ c, ExI K (P0.CA c)
  slf : ∀ a b, P0.CA a = P0.CA b → T.sub a b = true
  fnm : T.fn = P0.FN
  bl : ∀ x ∈ T.sg.blt, x ≠ ("gcd" : Str) → mg x = none
  gl : ∀ (x : Str) (d : D), (x, d) ∈ T.sg.gl → ∃ (u : Value) (v : V), mg x = some u ∧ RelV v u ∧ (x == ("__debug__" : Str)) = false ∧ ∀ M H, DV K M H d v
  gc : ("gcd" : Str) ∈ T.sg.blt → mg "gcd" = some (.builtin "math.gcd")
end
section
variable {T : PT} {prog : Program} {w : World} {K : PySem.W.Frag} {mg : Str → Option Value} {base : Heap} {P0 : Par}
theorem q_eerr {X : Cx} {P : Par} {W : WX} {x : Expr} : PE X x (tE X.K P W fun _ _ => .err) := ⟨fun pins s σ H Q I h => by
  obtain ⟨M, env, st, sl, at_, p⟩ := h
  exact p.elim⟩
/-- what holds of the functions at one depth -/
def Lvl (T : PT) (prog : Program) (w : World) (K : PySem.W.Frag) (mg : Str → Option Value) (base : Heap) (P0 : Par) (lv : Nat) (ft : Nat → List D → Sto → Res D) : Prop :=
  ∀ (f : Nat) (nm : Str) (ar : Nat), T.sg.fn.lookup f = some (nm, ar) → ∃ (ad : Addr) (fd : FuncData) (ps : List Str), mg nm = some (.ref ad) ∧ PySem.W.keepIn K (.ref ad) = true ∧ (nm == ("__debug__" : Str)) = false ∧ ps.length = ar ∧ (∀ us : List Value, us.length = ps.length → bindArgs fd ⟨us, []⟩ = pure (ps.zip us)) ∧
    (∀ P, PB P0 P → P.XV = [] → P.xa 0 = none → FnS prog w K mg base P lv ad fd ps (ft f)) ∧ ∀ (n : Nat) (ks : List Str) (ix : List Nat), (f, n, ks, ix) ∈ T.sg.kw → KwB fd ps ks n ix
theorem cokDef {lv : Nat} {P : Par} {C : Ctx} {Γ : Gam} {ps : List Str} {qual : Str} {scope : Scope} {f : Addr} {cd : Value} {A : Around} {outer : List Env} {s : Shared} {H : Hp} {E : XK} (G : SGok T.sg lv prog w K mg base P0 C) (hpb : PB P0 P) (hxv : P.XV = []) (hxa : P.xa 0 = none) (S : FnScope Γ.N ps scope) (hsc : Γ.sc = scope) (hfa : Γ.fnAll = true) (hex : Γ.ex = none)
    (hr : Room (lv + Γ.rm) (A.deeper (envOfC qual scope s.heap.objs.size f cd))) (hg : (A.deeper (envOfC qual scope s.heap.objs.size f cd)).guards = some []) (hl : ∀ nm, Γ.lam = some nm → Γ.rm = 2 ∧ ∃ c t, cd = .ref c ∧ LamX.TabB base mg c t ∧ (t, lamQ qual nm) ∈ P.T ∧ ∀ p ∈ P.T, p.1 = t → p.2 = lamQ qual nm)
    (ht : ∀ a, Γ.th = some a → ThOk (cxOf (L2.CX prog w) prog w K mg base Γ.N qual scope f cd A outer s H E) P a C.th) : Cok T.sg lv P0 P C Γ (cxOf (L2.CX prog w) prog w K mg base Γ.N qual scope f cd A outer s H E) (fun c d _ H => E c d H) where
  pb := hpb
  G := G
  N := rfl
  sc := hsc.symm
  nd := S.nd
  fk := by rw [hsc]; exact S.kind
  fnA := fun _ _ => rfl
  calm := fun _ => ⟨rfl, hr, hxv, hxa, passes_of rfl⟩
  un := hr.units
  gd := hg
  tk := takes_of rfl rfl rfl rfl
  top := fun _ => ⟨rfl, rfl, hex⟩
  lam := fun nm q => by
    obtain ⟨h1, c, t, h2, h3, h4, h5⟩ := hl nm q
    have e1 : (cxOf (L2.CX prog w) prog w K mg base Γ.N qual scope f cd A outer s H E).env.qual = qual ++ ".<locals>." := rfl
    have e2 : (cxOf (L2.CX prog w) prog w K mg base Γ.N qual scope f cd A outer s H E).env.code = cd := rfl
    rw [e1, e2]
    exact ⟨h1, c, t, h2, h3, h4, h5⟩
  th := ht
  ex := fun i n q => by rw [hex] at q; cases q
theorem hoOk {lv fu : Nat} (Wd : Wld T prog w K mg base P0) (h2 : 2 ≤ lv) {ft : Nat → List D → Sto → Res D} (L : Lvl T prog w K mg base P0 lv ft) (th : Sto → Res D) : SGok T.sg lv prog w K mg base P0 (hoC T fu ft th) where
  lv2 := h2
  fn := L
  cl := fun c nm f e => (Wd.cl c nm f e).2
  sub := Wd.sub
  eg := Wd.eg
  ei := Wd.ei
  slf := Wd.slf
  fnm := Wd.fnm
  bl := Wd.bl
  gl := Wd.gl
  gc := Wd.gc
  ho := fun h x e X P W Fl params body scope p lpos pos c t _ _ _ _ _ _ _ _ _ _ _ _ _ _ _ _ _ _ _ => q_eerr
theorem mkOk {lv fu : Nat} (Wd : Wld T prog w K mg base P0) (h2 : 2 ≤ lv) {ft : Nat → List D → Sto → Res D} (L : Lvl T prog w K mg base P0 lv ft) : SGok T.sg lv prog w K mg base P0 (mkC T fu ft) where
  lv2 := h2
  fn := L
  cl := fun c nm f e => (Wd.cl c nm f e).2
  sub := Wd.sub
  eg := Wd.eg
  ei := Wd.ei
  slf := Wd.slf
  fnm := Wd.fnm
  bl := Wd.bl
  gl := Wd.gl
  gc := Wd.gc
  ho := fun h x e X P W Fl params body scope p lpos pos c t e1 e2 e3 e4 e5 hpb hxv hxa hgl TB hcode hmT hu hr hgd tk LS hna hbody => by
    subst e1 e2 e3 e4 e5
    obtain ⟨F, hF, a, g, qual, pars, text, sc, dV, kV, doc, pm, cdv, ct, oc, an, od, osl, f1, f2, f3, f4, f5, f6, f7, f8, f9, f10, f11, f12⟩ := Wd.ho h x e
    obtain ⟨d1, d2⟩ := okN_d f10
    cases no_args hna
    have z := q_lam (X := X) (P := P) (W := W) (Fl := Fl) (params := ⟨[], [], none, [], [], none, []⟩) (k := lv + 1) (Ng := F.N) (p := p) (lpos := lpos) (pos := pos) (Fb := fun th => evSs (hoC T fu ft th) F.body) hgl f2 f3 f5 f6 f11 f7 f8 f9
      (fun A outer s H E P' th h1 h2' h3 h4 h5 hr' hg' thok => sSs (cokDef (Γ := hoG F sc a) (f := g) (cd := cdv) (A := A) (outer := outer) (s := s) (H := H) (E := E) (hoOk Wd h2 L th) ⟨by rw [h5]; exact hpb.1, by rw [h1]; exact hpb.2.1, by rw [h2']; exact hpb.2.2⟩ h3 h4 f7 rfl rfl rfl hr' hg' (fun _ q => nomatch q) fun b q => by cases q; exact thok) F.body text f12)
      hxv TB hcode hmT hu hr hgd tk LS rfl (fun q cl pm cv ctv => rfl) (Nat.le_add_left 1 lv) hbody f4 d1 d2
    refine pe_same z fun env st => ?_
    simp only [mkC, hoF, hF]
theorem lvl_all (Wd : Wld T prog w K mg base P0) (fu : Nat) : ∀ n : Nat, Lvl T prog w K mg base P0 (3 * n + 2) (callF T fu n)
  | 0 => fun f nm ar e => by
    obtain ⟨F, hF, hps, ad, name, qual, params, text, scope, dV, kV, doc, pm, cdv, ct, oc, an, od, osl, f1, f2, f3, f4, f5, f6, f7, f8, f9, f10⟩ := Wd.fn f nm ar e
    exact ⟨ad, _, F.ps, f1, f2, f3, hps, f7, fun P _ _ _ A outer s H args us vs Q E M ds st _ _ _ _ _ _ _ _ p => p.elim, f8⟩
  | n + 1 => fun f nm ar e => by
    obtain ⟨F, hF, hps, ad, name, qual, params, text, scope, dV, kV, doc, pm, cdv, ct, oc, an, od, osl, f1, f2, f3, f4, f5, f6, f7, f8, f9, f10⟩ := Wd.fn f nm ar e
    have ih := lvl_all Wd fu n
    refine ⟨ad, _, F.ps, f1, f2, f3, hps, f7, fun P hpb hxv hxa => ?_, f8⟩
    have z := fns_of (prog := prog) (w := w) (mg := mg) (base := base) (Pr := P) (k := 3 * n + 2 + 2) (Fb := evSs (mkC T fu (callF T fu n)) F.body) f4 f5 f6 (fun A outer s H E hr hg => sSs (cokDef (Γ := defG F scope) (f := ad) (cd := cdv) (A := A) (outer := outer) (s := s) (H := H) (E := E) (mkOk Wd (Nat.le_add_left 2 _) ih) hpb hxv hxa f6 rfl rfl rfl hr hg (fun nm q => ⟨rfl, by
          obtain ⟨c, t, g1, g2, g3, g4⟩ := f10 nm q
          exact ⟨c, t, g1, g2, by rw [hpb.1]; exact g3, fun p hp => g4 p (by rw [← hpb.1]; exact hp)⟩⟩) fun b q => nomatch q) F.body text f9)
    have e2 : (fun ds st => ofSR (evSs (mkC T fu (callF T fu n)) F.body (env0 F.N.length ds) st)) = callF T fu (n + 1) f := by
      funext ds st
      simp only [callF, hF]
    rw [e2] at z
    exact z
/-- the law by data: its function at every script gives True -/
def Pure (T : PT) (f n : Nat) : Prop := ∀ ns : List Int, ns.length ≤ n → (∀ z ∈ ns, Builtin.Int.intBits z ≤ 1048576) → ∃ (d fu : Nat) (st : Sto), d ≤ 30 ∧ callF T fu d f [.fz (ns.map D.int)] [] = .ok (.bl true) st
theorem room_caller {k : Nat} (h : k ≤ 92) : Room k callerA := ⟨rfl, by
  have e : callerA.depth + 3 * 92 + 5 < recursionLimit := by decide +kernel
  omega, by
  have e : callerA.units + 16 * 92 + 200 < cLine := by decide +kernel
  omega⟩
theorem lawF_of {fa : Addr} {cs : List (Addr × Addr)} {nm : Str} {f n : Nat} (Wd : Wld T prog w K mg base P0) (hf : T.sg.fn.lookup f = some (nm, 1)) (hfa : mg nm = some (.ref fa)) (hT : ∀ p ∈ P0.T, ∃ q ∈ cs, q.2 = p.1) (hxv : P0.XV = []) (hxa : P0.xa 0 = none) (hsb : P0.SB = []) (pu : Pure T f n) {fd : FuncData} {x : Str} : LawF prog w K mg base fa cs fd x n := by
  intro s H a ns us e0 hb rv sq ht hl hbits
  obtain ⟨d, fu, st, hd, hres⟩ := pu ns hl hbits
  obtain ⟨ad2, fd2, ps2, g1, g2, g3, g4, g5, g6, g7⟩ := lvl_all Wd fu d f nm 1 hf
  rw [hfa] at g1
  cases g1
  have hus : us.length = ps2.length := by rw [g4, ← rv.length]; rfl
  have at_ : At K P0 [] H [] := ⟨⟨rfl, List.nodup_nil, fun n o e => by simp at e⟩, fun p hp => by
    obtain ⟨q, hq, e⟩ := hT p hp
    rw [← e]
    exact LamX.TabS.nil (ht q hq), fun q hq => (by rw [hxv] at hq; cases hq), fun q hq => (by rw [hsb] at hq; cases hq)⟩
  refine g6 P0 ⟨rfl, rfl, rfl⟩ hxv hxa callerA [] s H ⟨us, []⟩ us [.ref a] (fun v _ => v = .bl true) (fun _ _ _ => False) [] [.fz (ns.map D.int)] [] (room_caller (by omega)) rfl e0 (.of_eq (g5 us hus)) rv g4.symm at_ (dvs_cons (dv_fz.mpr ⟨a, _, rfl, sq, dvs_ints ns⟩) dvs_nil) ?_
  rw [hres]
  exact fun b M' H' _ _ r => dv_bl.mp r
end
end Q
end

section
set_option Elab.async false
set_option linter.all false
set_option maxRecDepth 100000
set_option maxHeartbeats 1000000
set_option autoImplicit false
/-! The laws' deck: drawing from the script. -/
namespace Q
open PySem L2
/-- the deck's dict -/
def dkD (key : Str) (l a b : D) : List (Key × D) := [(.inr key, l), (.inr "mixed", a), (.inr "draws", b)]
def drawS (key : Str) (c1 c2 c3 c4 c5 c6 c7 c8 c9 c10 : Int) : SL := (.cons (.put (.var 0) (.str "draws") (.op .add (.ix (.var 0) (.str "draws")) (.int 1))) (.cons (.set 2 (.op .add (.ix (.var 0) (.str "mixed")) (.op .mul (.int c1) (.ix (.var 0) (.str "draws"))))) (.cons (.ite (.cmp .ne (.ix (.var 0) (.str key)) (.lst .nil)) (.cons (.set 3 (.mt .pop (.ix (.var 0) (.str key)) .nil)) (.cons (.ite (.cmp .ge (.var 3) (.op .pow (.int 10) (.int 18))) (.cons (.expr (.mt .append (.ix (.var 0) (.str key)) (.cons (.op .fdiv (.var 3) (.blt .max2 (.cons (.int 2) (.cons (.var 1) .nil)))) .nil))) (.cons (.ret (.op .mod (.blt .int (.cons (.var 3) .nil)) (.var 1))) .nil)) .nil) (.cons (.set 2 (.op .add (.var 2) (.op .mod (.blt .int (.cons (.var 3) .nil)) (.int c2)))) .nil))) .nil) (.cons (.set 2 (.op .mod (.blt .int (.cons (.op .add (.op .mul (.var 2) (.int c3)) (.int c4)) .nil)) (.int c5))) (.cons (.set 2 (.op .mod (.blt .int (.cons (.op .add (.op .add (.op .mul (.var 2) (.var 2)) (.op .mul (.int c6) (.ix (.var 0) (.str "draws")))) (.int c7)) .nil)) (.int c8))) (.cons (.set 2 (.op .mod (.blt .int (.cons (.op .mul (.var 2) (.int c9)) .nil)) (.int c10))) (.cons (.ret (.op .mod (.blt .int (.cons (.op .fdiv (.var 2) (.int 64)) .nil)) (.var 1))) .nil)))))))
theorem strNe {a b : String} (h : decide ((a : Str) = (b : Str)) = false) : ¬ ((Sum.inr (a : Str) : Key) = Sum.inr (b : Str)) := fun e => by
  have := Sum.inr.inj e
  rw [decide_eq_true this] at h
  cases h
theorem look_k {key : Str} {l a b : D} : lookD (dkD key l a b) (.inr key) = some l := by simp [dkD, lookD]
theorem look_m {key : Str} {l a b : D} (h : key ≠ "mixed") : lookD (dkD key l a b) (.inr "mixed") = some a := by simp [dkD, lookD, h]
theorem look_d {key : Str} {l a b : D} (h : key ≠ "draws") : lookD (dkD key l a b) (.inr "draws") = some b := by
  have h2 : ("mixed" : Str) ≠ "draws" := by decide +kernel
  simp [dkD, lookD, h, h2]
theorem put_d {key : Str} {l a b x : D} (h : key ≠ "draws") : putD (dkD key l a b) (.inr "draws") x = dkD key l a x := by
  have h2 : ("mixed" : Str) ≠ "draws" := by decide +kernel
  simp [dkD, putD, h, h2]
section
variable {st : Sto} {n : Nat} {kvs : List (Key × D)} {x : Str} {d v : D}
theorem ix_dk (h : st[n]? = some (.dK kvs)) (e : lookD kvs (.inr x) = some d) : ixD (.loc n) (.str x) st = some (d, st) := by
  simp [ixD, alt2, ixT, ixL, ixK, h, keyD, e]
theorem set_dk (h : st[n]? = some (.dK kvs)) (hl : kvs.length < 100000) : setD (.loc n) (.str x) v st = some (st.set n (.dK (putD kvs (.inr x) v))) := by
  simp [setD, h, keyD, hl]
theorem get_set {m : Nat} {o : Ob} : (st.set n o)[m]? = if n = m then (if m < st.length then some o else none) else st[m]? := by
  rw [List.getElem?_set]
  by_cases h : n = m
  · subst h; simp
  · simp [h]
end
/-- a deck at n, its list at m -/
structure Deck (key : Str) (st : Sto) (n m : Nat) (b : Int) : Prop where
  ne : n ≠ m
  dk : ∃ a : Int, st[n]? = some (.dK (dkD key (.loc m) (.int a) (.int b))) ∧ 0 ≤ a ∧ a < 4294967296
  ls : ∃ cs : List Int, st[m]? = some (.lst (cs.map D.int)) ∧ cs.length ≤ 1000
theorem toP_ints (st : Sto) (k : Nat) : ∀ cs : List Int, mapO (toP st (k + 1)) (cs.map D.int) = some (cs.map PyData.int)
  | [] => rfl
  | c :: cs => by
    rw [List.map_cons, mapO, toP_ints st k cs]
    rfl
theorem lay_all : ∀ cs : List Int, PyData.canLayAll0 (cs.map PyData.int) = true
  | [] => by simp [PyData.canLayAll0]
  | c :: cs => by simp [PyData.canLayAll0, PyData.canLay0, lay_all cs]
theorem dep_all : ∀ cs : List Int, PyData.depthAll (cs.map PyData.int) ≤ 1
  | [] => by simp [PyData.depthAll]
  | c :: cs => by
    have := dep_all cs
    simp only [List.map_cons, PyData.depthAll, PyData.depth]
    omega
theorem lay_ints (cs : List Int) : SeqAt.shaped (.list (cs.map PyData.int)) = true := by
  have h1 := lay_all cs
  have h2 := dep_all cs
  unfold SeqAt.shaped
  rw [Bool.and_eq_true, decide_eq_true_eq]
  refine ⟨by simp [PyData.canLay0, h1], ?_⟩
  simp only [PyData.depth]
  omega
theorem ne_nil {st : Sto} {m k : Nat} {cs : List Int} (h : st[m]? = some (.lst (cs.map D.int))) (h2 : st[k]? = some (.lst [])) : neD (.loc m) (.loc k) st = some (.bl (!cs.isEmpty), st) := by
  have e1 : toP st 30 (.loc m) = some (.list (cs.map PyData.int)) := by
    rw [toP, h]
    show (mapO (toP st 29) (cs.map D.int)).map PyData.list = _
    rw [toP_ints st 28 cs]; rfl
  have e2 : toP st 30 (.loc k) = some (.list []) := by
    rw [toP, h2]; rfl
  have e3 := lay_ints cs
  have e4 := lay_ints []
  have e5 : PyData.eqv (.list (cs.map PyData.int)) (.list []) = cs.isEmpty := by
    cases cs <;> simp [PyData.eqv, PyData.eqvAll]
  simp only [List.map_nil] at e4
  simp [neD, alt2, negB, eqS, eqP, e1, e2, e3, e4, e5]
end Q
end

section
set_option Elab.async false
set_option linter.all false
set_option maxRecDepth 100000
set_option maxHeartbeats 2000000
set_option autoImplicit false
/-! One draw. -/
namespace Q
open PySem L2
theorem evSs_cons {C : Ctx} {s : S} {r : SL} {env : Ev} {st : Sto} : evSs C (.cons s r) env st = (evS C s env st).bind (evSs C r) := by simp only [evSs]
theorem bits_lt {i : Int} {k : Nat} (h : i.natAbs < 2 ^ k) (hk : 0 < k) : bits i < k := by
  unfold bits
  by_cases h0 : i.natAbs = 0
  · rw [h0]; simp; exact hk
  · exact (Nat.log2_lt h0).mpr h
theorem mulI_ok {i j : Int} {k l : Nat} (h1 : i.natAbs < 2 ^ k) (h2 : j.natAbs < 2 ^ l) (h : k + l < 1000000) (hk : 0 < k) (hl : 0 < l) : mulI i j = some (i * j) := by
  unfold mulI
  have := bits_lt h1 hk
  have := bits_lt h2 hl
  rw [if_pos (by omega)]
theorem modI_ok {i j : Int} (h : j ≠ 0) : modI i j = some (i.fmod j) := if_pos h
theorem fmod_rng {i j : Int} (h : 0 < j) : 0 ≤ i.fmod j ∧ i.fmod j < j := ⟨Int.fmod_nonneg_of_pos i h, Int.fmod_lt_of_pos i h⟩
theorem abs_lt {i : Int} {k : Nat} (h0 : 0 ≤ i) (h : i < 2 ^ k) : i.natAbs < 2 ^ k := by
  have h1 : (i.natAbs : Int) = i := Int.natAbs_of_nonneg h0
  have h2 : ((2 ^ k : Nat) : Int) = (2 : Int) ^ k := by norm_cast
  omega
/-- elsewhere the store stays -/
def Fr (n m : Nat) (st st' : Sto) : Prop := st.length ≤ st'.length ∧ ∀ k, k < st.length → k ≠ n → k ≠ m → st'[k]? = st[k]?
theorem Fr.refl (n m : Nat) (st : Sto) : Fr n m st st := ⟨Nat.le_refl _, fun _ _ _ _ => rfl⟩
theorem Fr.trans {n m : Nat} {a b c : Sto} (h : Fr n m a b) (g : Fr n m b c) : Fr n m a c := ⟨Nat.le_trans h.1 g.1, fun k hk h1 h2 => by rw [g.2 k (Nat.lt_of_lt_of_le hk h.1) h1 h2, h.2 k hk h1 h2]⟩
/-- the last part of a draw -/
def drawT (c3 c4 c5 c6 c7 c8 c9 c10 : Int) : SL := (.cons (.set 2 (.op .mod (.blt .int (.cons (.op .add (.op .mul (.var 2) (.int c3)) (.int c4)) .nil)) (.int c5))) (.cons (.set 2 (.op .mod (.blt .int (.cons (.op .add (.op .add (.op .mul (.var 2) (.var 2)) (.op .mul (.int c6) (.ix (.var 0) (.str "draws")))) (.int c7)) .nil)) (.int c8))) (.cons (.set 2 (.op .mod (.blt .int (.cons (.op .mul (.var 2) (.int c9)) .nil)) (.int c10))) (.cons (.ret (.op .mod (.blt .int (.cons (.op .fdiv (.var 2) (.int 64)) .nil)) (.var 1))) .nil))))
/-- a constant of a deck -/
def Cn (c : Int) : Prop := 0 < c ∧ c < 4294967296
theorem drawT_ok {C : Ctx} {key : Str} {c3 c4 c5 c6 c7 c8 c9 c10 : Int} {st : Sto} {n : Nat} {l a : D} {b many f : Int} {x : Option D} (hk : key ≠ "draws") (h : st[n]? = some (.dK (dkD key l a (.int b)))) (h3 : Cn c3) (h4 : Cn c4) (h5 : Cn c5) (h6 : Cn c6) (h7 : Cn c7) (h8 : Cn c8) (h9 : Cn c9) (h10 : Cn c10)
    (hb : 0 ≤ b ∧ b < 2 ^ 40) (hf : f.natAbs < 2 ^ 200) (hm : 0 < many) : ∃ r, evSs C (drawT c3 c4 c5 c6 c7 c8 c9 c10) [some (.loc n), some (.int many), some (.int f), x] st = .rt (.int r) st ∧ 0 ≤ r ∧ r < many := by
  have e1 : mulI f c3 = some (f * c3) := mulI_ok hf (abs_lt (k := 32) (Int.le_of_lt h3.1) h3.2) (by omega) (by omega) (by omega)
  have n5 : c5 ≠ 0 := by have := h5.1; omega
  have n8 : c8 ≠ 0 := by have := h8.1; omega
  have n10 : c10 ≠ 0 := by have := h10.1; omega
  have nm : many ≠ 0 := by omega
  obtain ⟨g, hg⟩ : ∃ g, g = (f * c3 + c4).fmod c5 := ⟨_, rfl⟩
  have gr := fmod_rng (i := f * c3 + c4) h5.1
  rw [← hg] at gr
  have ga : g.natAbs < 2 ^ 32 := abs_lt gr.1 (by have := h5.2; omega)
  have e2 : mulI g g = some (g * g) := mulI_ok ga ga (by omega) (by omega) (by omega)
  have e3 : mulI c6 b = some (c6 * b) := mulI_ok (abs_lt (k := 32) (Int.le_of_lt h6.1) h6.2) (abs_lt (k := 40) hb.1 hb.2) (by omega) (by omega) (by omega)
  obtain ⟨u, hu⟩ : ∃ u, u = (g * g + c6 * b + c7).fmod c8 := ⟨_, rfl⟩
  have ur := fmod_rng (i := g * g + c6 * b + c7) h8.1
  rw [← hu] at ur
  have ua : u.natAbs < 2 ^ 32 := abs_lt ur.1 (by have := h8.2; omega)
  have e4 : mulI u c9 = some (u * c9) := mulI_ok ua (abs_lt (k := 32) (Int.le_of_lt h9.1) h9.2) (by omega) (by omega) (by omega)
  obtain ⟨w, hw⟩ : ∃ w, w = (u * c9).fmod c10 := ⟨_, rfl⟩
  have e5 : fdivI w 64 = some (w.fdiv 64) := by
    unfold fdivI
    rw [if_pos ⟨by decide, by decide⟩]
  have hx : ∀ (i : Int), ixD (.loc n) (.str "draws") st = some (.int b, st) := fun _ => ix_dk h (look_d hk)
  refine ⟨(w.fdiv 64).fmod many, ?_, (fmod_rng hm).1, (fmod_rng hm).2⟩
  unfold drawT
  simp only [evSs, evS, evE, evL, vGet, Res.bind, Res.then, SR.bind, ofO, opD, addD, mul2D, mulD, alt2, int2, bfD, intD, List.getElem?_cons_zero, List.getElem?_cons_succ, List.set_cons_zero, List.set_cons_succ, Option.map_some, e1, modI_ok n5, ← hg, e2, hx 0, e3, modI_ok n8, ← hu, e4, modI_ok n10, ← hw, e5, modI_ok nm]

theorem lt_of_get {α : Type} {l : List α} {i : Nat} {x : α} (h : l[i]? = some x) : i < l.length := (List.getElem?_eq_some_iff.mp h).1
theorem popD_ok {st : Sto} {m : Nat} {cs : List Int} {c : Int} (h : st[m]? = some (.lst ((cs ++ [c]).map D.int))) : popD (.loc m) [] st = some (.int c, st.set m (.lst (cs.map D.int))) := by
  simp [popD, h]
theorem appD_ok {st : Sto} {m : Nat} {ds : List D} {d : D} (h : st[m]? = some (.lst ds)) (hl : ds.length ≤ 100000) : appD (.loc m) [d] st = some (.non, st.set m (.lst (ds ++ [d]))) := by
  simp [appD, h, hl]
theorem isL_ok {st : Sto} {m : Nat} {ds : List D} (h : st[m]? = some (.lst ds)) : isL (.loc m) st = true := by simp [isL, h]
theorem draw_ok {C : Ctx} {key : Str} {c1 c2 c3 c4 c5 c6 c7 c8 c9 c10 : Int} {st : Sto} {n m : Nat} {b many : Int} {x y : Option D} (k1 : key ≠ "mixed") (k2 : key ≠ "draws") (Dk : Deck key st n m b) (h1 : Cn c1) (h2 : Cn c2) (h3 : Cn c3) (h4 : Cn c4) (h5 : Cn c5) (h6 : Cn c6) (h7 : Cn c7) (h8 : Cn c8) (h9 : Cn c9) (h10 : Cn c10)
    (hb : 0 ≤ b ∧ b < 2 ^ 39) (hm : 0 < many ∧ many < 1073741824) : ∃ r st', evSs C (drawS key c1 c2 c3 c4 c5 c6 c7 c8 c9 c10) [some (.loc n), some (.int many), x, y] st = .rt (.int r) st' ∧ (0 ≤ r ∧ r < many) ∧ Deck key st' n m (b + 1) ∧ Fr n m st st' := by
  obtain ⟨ne, ⟨a, hd, ha0, ha1⟩, cs, hl, hcl⟩ := Dk
  have ln := lt_of_get hd
  have lm := lt_of_get hl
  -- draws is one more
  obtain ⟨st1, hst1⟩ : ∃ s, s = st.set n (.dK (dkD key (.loc m) (.int a) (.int (b + 1)))) := ⟨_, rfl⟩
  have d1 : st1[n]? = some (.dK (dkD key (.loc m) (.int a) (.int (b + 1)))) := by rw [hst1, get_set, if_pos rfl, if_pos ln]
  have l1 : st1[m]? = some (.lst (cs.map D.int)) := by rw [hst1, get_set, if_neg ne, hl]
  have len1 : st1.length = st.length := by rw [hst1, List.length_set]
  have F1 : Fr n m st st1 := ⟨by rw [len1]; exact Nat.le_refl _, fun k hk q1 q2 => by rw [hst1, get_set, if_neg (Ne.symm q1)]⟩
  have s1 : evS C (.put (.var 0) (.str "draws") (.op .add (.ix (.var 0) (.str "draws")) (.int 1))) [some (.loc n), some (.int many), x, y] st = .nx [some (.loc n), some (.int many), x, y] st1 := by
    simp only [evS, evE, vGet, Res.bind, Res.then, ofO, opD, addD, alt2, int2, List.getElem?_cons_zero, Option.map_some, ix_dk hd (look_d k2), set_dk hd (show (dkD key (.loc m) (.int a) (.int b)).length < 100000 by show 3 < 100000; omega), put_d k2, ofSt, ← hst1]
  -- the figure
  have e1 : mulI c1 (b + 1) = some (c1 * (b + 1)) := mulI_ok (abs_lt (k := 32) (Int.le_of_lt h1.1) h1.2) (abs_lt (k := 40) (by omega) (by omega)) (by omega) (by omega) (by omega)
  obtain ⟨f, hf⟩ : ∃ f, f = a + c1 * (b + 1) := ⟨_, rfl⟩
  have fb : 0 ≤ f ∧ f < 2 ^ 199 := by
    have p1 : 0 ≤ c1 * (b + 1) := Int.mul_nonneg (Int.le_of_lt h1.1) (by omega)
    have p2 : c1 * (b + 1) ≤ 4294967296 * 2 ^ 40 := Int.mul_le_mul (Int.le_of_lt h1.2) (by omega) (by omega) (by omega)
    rw [hf]
    constructor
    · omega
    · have : (4294967296 : Int) * 2 ^ 40 + 4294967296 < 2 ^ 199 := by decide
      omega
  have s2 : evS C (.set 2 (.op .add (.ix (.var 0) (.str "mixed")) (.op .mul (.int c1) (.ix (.var 0) (.str "draws"))))) [some (.loc n), some (.int many), x, y] st1 = .nx [some (.loc n), some (.int many), some (.int f), y] st1 := by
    simp only [evS, evE, vGet, Res.bind, Res.then, ofO, opD, addD, mul2D, mulD, alt2, int2, List.getElem?_cons_zero, List.set_cons_zero, List.set_cons_succ, Option.map_some, ix_dk d1 (look_d k2), ix_dk d1 (look_m k1), e1, ← hf]
  -- the test
  obtain ⟨st2, hst2⟩ : ∃ s, s = st1 ++ [Ob.lst []] := ⟨_, rfl⟩
  have d2 : st2[n]? = some (.dK (dkD key (.loc m) (.int a) (.int (b + 1)))) := by rw [hst2, List.getElem?_append_left (by rw [len1]; exact ln), d1]
  have l2 : st2[m]? = some (.lst (cs.map D.int)) := by rw [hst2, List.getElem?_append_left (by rw [len1]; exact lm), l1]
  have lm2 := lt_of_get l2
  have F2 : Fr n m st st2 := F1.trans ⟨by rw [hst2]; simp, fun k hk _ _ => by rw [hst2, List.getElem?_append_left hk]⟩
  have z2 : st2[st1.length]? = some (.lst []) := by rw [hst2, List.getElem?_append_right (Nat.le_refl _), Nat.sub_self]; rfl
  have t3 : ∀ env : Ev, env[0]? = some (some (.loc n)) → evT C (.cmp .ne (.ix (.var 0) (.str key)) (.lst .nil)) env st1 = .ok (!cs.isEmpty) st2 := fun env he => by
    have c0 : evL C .nil env st1 = .ok [] st1 := by simp only [evL]
    have c1 : mkLst [] st1 = some (.loc st1.length, st2) := by rw [hst2]; rfl
    simp only [evT, fBl, evE, vGet, he, Res.bind, ofO, ix_dk d1 look_k, c0, c1, cmD, ne_nil l2 z2, blB]
  unfold drawS
  rw [evSs_cons, s1]
  simp only [SR.bind]
  rw [evSs_cons, s2]
  simp only [SR.bind]
  rw [evSs_cons]
  simp only [evS, t3 _ (show ([some (.loc n), some (.int many), some (.int f), y] : Ev)[0]? = some (some (.loc n)) from rfl), Res.then]
  by_cases hcs : cs = []
  · subst hcs
    simp only [List.isEmpty_nil, Bool.not_true, Bool.false_eq_true, if_false, evSs, SR.bind]
    obtain ⟨r, hr, r0, r1⟩ := drawT_ok (C := C) (key := key) (st := st2) (n := n) (many := many) (f := f) (x := y) k2 d2 h3 h4 h5 h6 h7 h8 h9 h10 ⟨by omega, by omega⟩ (abs_lt fb.1 (Int.lt_trans fb.2 (by decide))) hm.1
    unfold drawT at hr
    exact ⟨r, st2, hr, ⟨r0, r1⟩, ⟨ne, ⟨a, d2, ha0, ha1⟩, [], l2, by simp⟩, F2⟩
  · obtain ⟨cs', c, rfl⟩ : ∃ cs' c, cs = cs' ++ [c] := ⟨cs.dropLast, cs.getLast hcs, (List.dropLast_concat_getLast hcs).symm⟩
    have hne : (!(cs' ++ [c]).isEmpty) = true := by simp
    rw [hne, if_pos rfl]
    -- pop
    obtain ⟨st3, hst3⟩ : ∃ s, s = st2.set m (.lst (cs'.map D.int)) := ⟨_, rfl⟩
    have d3 : st3[n]? = some (.dK (dkD key (.loc m) (.int a) (.int (b + 1)))) := by rw [hst3, get_set, if_neg (Ne.symm ne), d2]
    have l3 : st3[m]? = some (.lst (cs'.map D.int)) := by rw [hst3, get_set, if_pos rfl, if_pos lm2]
    have F3 : Fr n m st st3 := F2.trans ⟨by rw [hst3, List.length_set]; exact Nat.le_refl _, fun k hk q1 q2 => by rw [hst3, get_set, if_neg (Ne.symm q2)]⟩
    have s3 : evS C (.set 3 (.mt .pop (.ix (.var 0) (.str key)) .nil)) [some (.loc n), some (.int many), some (.int f), y] st2 = .nx [some (.loc n), some (.int many), some (.int f), some (.int c)] st3 := by
      simp only [evS, evE, evL, vGet, Res.bind, Res.then, ofO, mtD, fMt, List.getElem?_cons_zero, List.set_cons_zero, List.set_cons_succ, ix_dk d2 look_k, isL_ok l2, if_true, popD_ok l2, ← hst3]
    rw [evSs_cons, s3]
    simp only [SR.bind]
    have hp : powI 10 18 = some (10 ^ 18) := by decide
    have t4 : evT C (.cmp .ge (.var 3) (.op .pow (.int 10) (.int 18))) [some (.loc n), some (.int many), some (.int f), some (.int c)] st3 = .ok (decide ((10 : Int) ^ 18 ≤ c)) st3 := by
      simp only [evT, fBl, evE, vGet, Res.bind, ofO, opD, cmD, geD, int2, int2b, hp, List.getElem?_cons_zero, List.getElem?_cons_succ, Option.map_some, blB]
    rw [evSs_cons]
    simp only [evS, t4, Res.then]
    by_cases hc : (10 : Int) ^ 18 ≤ c
    · rw [decide_eq_true hc, if_pos rfl]
      have hmx : fdivI c (if many > 2 then many else 2) = some (c.fdiv (if many > 2 then many else 2)) := by
        unfold fdivI
        rw [if_pos]
        split
        · exact ⟨by omega, by omega⟩
        · exact ⟨by decide, by decide⟩
      obtain ⟨q, hq⟩ : ∃ q, q = c.fdiv (if many > 2 then many else 2) := ⟨_, rfl⟩
      obtain ⟨st4, hst4⟩ : ∃ s, s = st3.set m (.lst ((cs' ++ [q]).map D.int)) := ⟨_, rfl⟩
      have lm3 := lt_of_get l3
      have d4 : st4[n]? = some (.dK (dkD key (.loc m) (.int a) (.int (b + 1)))) := by rw [hst4, get_set, if_neg (Ne.symm ne), d3]
      have l4 : st4[m]? = some (.lst ((cs' ++ [q]).map D.int)) := by rw [hst4, get_set, if_pos rfl, if_pos lm3]
      have F4 : Fr n m st st4 := F3.trans ⟨by rw [hst4, List.length_set]; exact Nat.le_refl _, fun k hk q1 q2 => by rw [hst4, get_set, if_neg (Ne.symm q2)]⟩
      have hap : appD (.loc m) [.int q] st3 = some (.non, st4) := by
        rw [appD_ok l3 (by rw [List.length_map]; rw [List.length_append] at hcl; omega), hst4, List.map_append]; rfl
      refine ⟨c.fmod many, st4, ?_, fmod_rng hm.1, ⟨ne, ⟨a, d4, ha0, ha1⟩, cs' ++ [q], l4, by rw [List.length_append] at hcl ⊢; exact hcl⟩, F4⟩
      simp only [evSs, evS, evE, evL, vGet, Res.bind, Res.then, SR.bind, ofO, opD, int2, bfD, intD, maxD, mtD, fMt, List.getElem?_cons_zero, List.getElem?_cons_succ, Option.map_some, ix_dk d3 look_k, isL_ok l3, if_true, hmx, ← hq, hap, modI_ok (show many ≠ 0 by omega)]
    · rw [decide_eq_false hc]
      simp only [Bool.false_eq_true, if_false, evSs, SR.bind]
      have n2 : c2 ≠ 0 := by have := h2.1; omega
      obtain ⟨g, hg⟩ : ∃ g, g = f + c.fmod c2 := ⟨_, rfl⟩
      have cr := fmod_rng (i := c) h2.1
      have s5 : evS C (.set 2 (.op .add (.var 2) (.op .mod (.blt .int (.cons (.var 3) .nil)) (.int c2)))) [some (.loc n), some (.int many), some (.int f), some (.int c)] st3 = .nx [some (.loc n), some (.int many), some (.int g), some (.int c)] st3 := by
        simp only [evS, evE, evL, vGet, Res.bind, Res.then, ofO, opD, addD, alt2, int2, bfD, intD, List.getElem?_cons_zero, List.getElem?_cons_succ, List.set_cons_zero, List.set_cons_succ, Option.map_some, modI_ok n2, ← hg]
      obtain ⟨r, hr, r0, r1⟩ := drawT_ok (C := C) (key := key) (st := st3) (n := n) (many := many) (f := g) (x := some (.int c)) k2 d3 h3 h4 h5 h6 h7 h8 h9 h10 ⟨by omega, by omega⟩ (abs_lt (by omega) (by
        have : (2 : Int) ^ 199 + 4294967296 < 2 ^ 200 := by decide
        have := h2.2
        omega)) hm.1
      unfold drawT at hr
      rw [s5]
      simp only [evSs, SR.bind] at hr ⊢
      exact ⟨r, st3, hr, ⟨r0, r1⟩, ⟨ne, ⟨a, d3, ha0, ha1⟩, cs', l3, by rw [List.length_append] at hcl; omega⟩, F3⟩
end Q
end

section
set_option Elab.async false
set_option linter.all false
set_option maxRecDepth 100000
set_option maxHeartbeats 2000000
set_option autoImplicit false
/-! Running: calls, loops, picks. -/
namespace Q
open PySem L2
section
variable {T : PT} {fu n f : Nat} {F : Fd} {ds : List D} {st : Sto}
theorem cf_succ (h : T.fd.lookup f = some F) : callF T fu (n + 1) f ds st = ofSR (evSs (mkC T fu (callF T fu n)) F.body (env0 F.N.length ds) st) := by simp only [callF, h]
theorem mk_ft {ft : Nat → List D → Sto → Res D} : (mkC T fu ft).ft = ft := rfl
end
/-- not an exception in hand -/
def nx : D → Bool
  | .exo _ => false
  | _ => true
theorem vGet_ok {i : Nat} {env : Ev} {st : Sto} {d : D} (h : env[i]? = some (some d)) (n : nx d = true) : vGet i env st = .ok d st := by
  unfold vGet
  rw [h]
  cases d <;> first
    | rfl
    | cases n
theorem loop_from {it : ItD} {g : D → Ev → Option Ev} {body : Ev → Sto → SR} (I : Nat → Ev → Sto → Prop) (step : ∀ i env st, i < it.n → I i env st → ∃ d env1 env2 st2, it.item i st = some d ∧ g d env = some env1 ∧ (body env1 st = .nx env2 st2 ∨ body env1 st = .ct env2 st2) ∧ I (i + 1) env2 st2) (fin : ∀ env st, I it.n env st → it.fin st = true) :
    ∀ k i env st, i + k = it.n → I i env st → ∃ env' st', loopS it g body k i env st = .nx env' st' ∧ I it.n env' st'
  | 0, i, env, st, hk, h => by
    have e : i = it.n := by omega
    rw [e] at h
    exact ⟨env, st, by rw [loopS, if_pos (fin env st h)], h⟩
  | k + 1, i, env, st, hk, h => by
    obtain ⟨d, env1, env2, st2, e1, e2, e3, h2⟩ := step i env st (by omega) h
    obtain ⟨env', st', e4, h3⟩ := loop_from I step fin k (i + 1) env2 st2 (by omega) h2
    refine ⟨env', st', ?_, h3⟩
    rw [loopS, e1]
    simp only [e2]
    rcases e3 with e3 | e3 <;> simp only [e3, e4]
theorem loop_inv {it : ItD} {g : D → Ev → Option Ev} {body : Ev → Sto → SR} {env : Ev} {st : Sto} (I : Nat → Ev → Sto → Prop) (h0 : I 0 env st) (step : ∀ i env st, i < it.n → I i env st → ∃ d env1 env2 st2, it.item i st = some d ∧ g d env = some env1 ∧ (body env1 st = .nx env2 st2 ∨ body env1 st = .ct env2 st2) ∧ I (i + 1) env2 st2) (fin : ∀ env st, I it.n env st → it.fin st = true) :
    ∃ env' st', loopS it g body it.n 0 env st = .nx env' st' ∧ I it.n env' st' := loop_from I step fin it.n 0 env st (by omega) h0
/-- what a draw does -/
def DrawOk (C : Ctx) (dr : Nat) (key : Str) : Prop := ∀ (st : Sto) (n m : Nat) (b many : Int), Deck key st n m b → (0 ≤ b ∧ b < 2 ^ 39) → (0 < many ∧ many < 1073741824) → ∃ r st', C.ft dr [.loc n, .int many] st = .ok (.int r) st' ∧ (0 ≤ r ∧ r < many) ∧ Deck key st' n m (b + 1) ∧ Fr n m st st'
def pickS (dr : Nat) : SL := (.cons (.ret (.ix (.var 1) (.call dr (.cons (.var 0) (.cons (.blt .len (.cons (.var 1) .nil)) .nil))))) .nil)
theorem atI_int {ds : List D} {r : Int} (h0 : 0 ≤ r) (h : r < ds.length) : ∃ d, d ∈ ds ∧ atI ds r = some d := by
  have hl : r.toNat < ds.length := by omega
  refine ⟨ds[r.toNat], List.getElem_mem hl, ?_⟩
  unfold atI ixN
  rw [if_pos h0, if_pos h]
  show ds[r.toNat]? = _
  rw [List.getElem?_eq_getElem hl]
theorem lenD_loc {st : Sto} {l : Nat} {ds : List D} (h : st[l]? = some (.lst ds)) : lenD [.loc l] st = some (.int ds.length, st) := by simp [lenD, h]
theorem ixD_loc {st : Sto} {l : Nat} {ds : List D} {r : Int} {d : D} (h : st[l]? = some (.lst ds)) (e : atI ds r = some d) : ixD (.loc l) (.int r) st = some (d, st) := by simp [ixD, alt2, ixT, ixL, h, e]
theorem ixD_tup {st : Sto} {ds : List D} {r : Int} {d : D} (e : atI ds r = some d) : ixD (.tup ds) (.int r) st = some (d, st) := by simp [ixD, alt2, ixT, e]
/-- a pick out of a list at l -/
theorem pick_ok {C : Ctx} {dr : Nat} {key : Str} {st : Sto} {n m l : Nat} {b : Int} {ds : List D} (Dr : DrawOk C dr key) (Dk : Deck key st n m b) (hb : 0 ≤ b ∧ b < 2 ^ 39) (hl : st[l]? = some (.lst ds)) (h0 : ds ≠ []) (hz : ds.length < 1000000) (n1 : l ≠ n) (n2 : l ≠ m) :
    ∃ d st', d ∈ ds ∧ evSs C (pickS dr) [some (.loc n), some (.loc l)] st = .rt d st' ∧ Deck key st' n m (b + 1) ∧ Fr n m st st' := by
  have hp : 0 < ds.length := List.length_pos_iff.mpr h0
  obtain ⟨r, st', e1, ⟨r0, r1⟩, Dk', F⟩ := Dr st n m b ds.length Dk hb ⟨by omega, by omega⟩
  have hl' : st'[l]? = some (.lst ds) := by rw [F.2 l (lt_of_get hl) n1 n2, hl]
  obtain ⟨d, hd, e2⟩ := atI_int r0 r1
  refine ⟨d, st', hd, ?_, Dk', F⟩
  simp only [pickS, evSs, evS, evE, evL, vGet, Res.bind, Res.then, SR.bind, ofO, bfD, List.getElem?_cons_zero, List.getElem?_cons_succ, lenD_loc hl, e1, ixD_loc hl' e2]
theorem pick_tup {C : Ctx} {dr : Nat} {key : Str} {st : Sto} {n m : Nat} {b : Int} {ds : List D} (Dr : DrawOk C dr key) (Dk : Deck key st n m b) (hb : 0 ≤ b ∧ b < 2 ^ 39) (h0 : ds ≠ []) (hz : ds.length < 1000000) :
    ∃ d st', d ∈ ds ∧ evSs C (pickS dr) [some (.loc n), some (.tup ds)] st = .rt d st' ∧ Deck key st' n m (b + 1) ∧ Fr n m st st' := by
  have hp : 0 < ds.length := List.length_pos_iff.mpr h0
  obtain ⟨r, st', e1, ⟨r0, r1⟩, Dk', F⟩ := Dr st n m b ds.length Dk hb ⟨by omega, by omega⟩
  obtain ⟨d, hd, e2⟩ := atI_int r0 r1
  refine ⟨d, st', hd, ?_, Dk', F⟩
  have e3 : lenD [.tup ds] st = some (.int ds.length, st) := by simp [lenD]
  simp only [pickS, evSs, evS, evE, evL, vGet, Res.bind, Res.then, SR.bind, ofO, bfD, List.getElem?_cons_zero, List.getElem?_cons_succ, e3, e1, ixD_tup e2]
/-- what pick does -/
def PickOk (C : Ctx) (pk : Nat) (key : Str) : Prop := ∀ (st : Sto) (n m l : Nat) (b : Int) (ds : List D), Deck key st n m b → (0 ≤ b ∧ b < 2 ^ 39) → st[l]? = some (.lst ds) → ds ≠ [] → ds.length < 1000000 → l ≠ n → l ≠ m → ∃ d st', d ∈ ds ∧ C.ft pk [.loc n, .loc l] st = .ok d st' ∧ Deck key st' n m (b + 1) ∧ Fr n m st st'
/-- a new list, then a pick out of it -/
theorem pick_new {C : Ctx} {pk : Nat} {key : Str} (Pk : PickOk C pk key) {st : Sto} {n m : Nat} {b : Int} {ds : List D} (Dk : Deck key st n m b) (hb : 0 ≤ b ∧ b < 2 ^ 39) (h0 : ds ≠ []) (hz : ds.length < 1000000) :
    ∃ d st', d ∈ ds ∧ C.ft pk [.loc n, .loc st.length] (st ++ [.lst ds]) = .ok d st' ∧ Deck key st' n m (b + 1) ∧ Fr n m st st' := by
  obtain ⟨ne, ⟨a, hd, ha⟩, cs, hl, hcl⟩ := Dk
  have ln := lt_of_get hd
  have lm := lt_of_get hl
  have Dk2 : Deck key (st ++ [Ob.lst ds]) n m b := ⟨ne, ⟨a, by rw [List.getElem?_append_left ln]; exact hd, ha⟩, cs, by rw [List.getElem?_append_left lm]; exact hl, hcl⟩
  obtain ⟨d, st', h1, h2, h3, h4⟩ := Pk (st ++ [Ob.lst ds]) n m st.length b ds Dk2 hb (by rw [List.getElem?_append_right (Nat.le_refl _), Nat.sub_self]; rfl) h0 hz (by omega) (by omega)
  refine ⟨d, st', h1, h2, h3, Fr.trans ⟨by simp, fun k hk _ _ => by rw [List.getElem?_append_left hk]⟩ h4⟩
theorem Deck.app {key : Str} {st more : Sto} {n m : Nat} {b : Int} (D : Deck key st n m b) : Deck key (st ++ more) n m b := by
  obtain ⟨ne, ⟨a, hd, ha⟩, cs, hl, hcl⟩ := D
  exact ⟨ne, ⟨a, by rw [List.getElem?_append_left (lt_of_get hd)]; exact hd, ha⟩, cs, by rw [List.getElem?_append_left (lt_of_get hl)]; exact hl, hcl⟩
theorem Fr.app {n m : Nat} {st more : Sto} : Fr n m st (st ++ more) := ⟨by simp, fun k hk _ _ => by rw [List.getElem?_append_left hk]⟩
end Q
end

section
set_option Elab.async false
set_option linter.all false
set_option maxRecDepth 100000
set_option maxHeartbeats 4000000
set_option autoImplicit false
namespace Q
open PySem L2
theorem absPow (b : Int) (i : Nat) : (b ^ i).natAbs = b.natAbs ^ i := by rw [Int.natAbs_pow]
theorem pow_lt {b : Int} {i : Nat} (hb : b.natAbs < 2 ^ 32) (hi : i ≤ 1000) : (b ^ i).natAbs < 2 ^ 32001 := by
  rw [absPow]
  calc b.natAbs ^ i ≤ (2 ^ 32) ^ i := Nat.pow_le_pow_left (Nat.le_of_lt hb) i
    _ = 2 ^ (32 * i) := by rw [← Nat.pow_mul]
    _ ≤ 2 ^ 32000 := Nat.pow_le_pow_right (by omega) (by omega)
    _ < 2 ^ 32001 := Nat.pow_lt_pow_right (by omega) (by omega)
/-- base times itself -/
def powerS : SL := (.cons (.set 2 (.int 1)) (.cons (.for (.nm 3) (.r1 (.var 1)) (.cons (.set 2 (.op .mul (.var 2) (.var 0))) .nil)) (.cons (.ret (.var 2)) .nil)))
theorem power_ok {C : Ctx} {b k : Int} {st : Sto} {x y : Option D} (hb : b.natAbs < 2 ^ 32) (h0 : 0 ≤ k) (h1 : k ≤ 1000) : evSs C powerS [some (.int b), some (.int k), x, y] st = .rt (.int (b ^ k.toNat)) st := by
  unfold powerS
  rw [evSs_cons]
  simp only [evS, evE, Res.then, SR.bind, List.set_cons_zero, List.set_cons_succ]
  rw [evSs_cons]
  have hs : smI k = true := by
    unfold smI
    simp
    omega
  simp only [evS, evI, evE, vGet, List.getElem?_cons_zero, List.getElem?_cons_succ, Res.bind, rng1, hs, if_true, Res.then]
  obtain ⟨env', st', h2, h3⟩ := loop_inv (it := itRng 0 1 k.toNat) (g := gT (.nm 3)) (body := evSs C (.cons (.set 2 (.op .mul (.var 2) (.var 0))) .nil)) (env := [some (.int b), some (.int k), some (.int 1), y]) (st := st)
    (fun i env s => s = st ∧ ∃ z, env = [some (.int b), some (.int k), some (.int (b ^ i)), z]) ⟨rfl, y, by rw [Int.pow_zero]⟩
    (fun i env s hi h => by
      obtain ⟨rfl, z, rfl⟩ := h
      have hi' : i < k.toNat := hi
      have e1 : mulI (b ^ i) b = some (b ^ i * b) := mulI_ok (pow_lt hb (by omega)) hb (by omega) (by omega) (by omega)
      refine ⟨.int (0 + (i : Int) * 1), _, _, _, rfl, rfl, .inl ?_, rfl, some (.int (0 + (i : Int) * 1)), rfl⟩
      simp only [evSs, evS, evE, vGet, List.getElem?_cons_zero, List.getElem?_cons_succ, List.set_cons_zero, List.set_cons_succ, Res.bind, Res.then, SR.bind, ofO, opD, mul2D, mulD, alt2, int2, e1, Option.map_some, Int.pow_succ])
    (fun _ _ _ => rfl)
  obtain ⟨rfl, z, rfl⟩ := h3
  rw [h2]
  simp only [SR.bind, evSs, evS, evE, vGet, List.getElem?_cons_zero, List.getElem?_cons_succ, Res.then]
  rfl
def deckS (key : Str) (c0 c1 c2 c3 c4 cap : Int) : SL := (.cons (.set 1 (.int c0)) (.cons (.for (.nm 2) (.val (.sl (.var 0) .none (.some (.int cap)))) (.cons (.set 1 (.op .mod (.blt .int (.cons (.op .add (.op .add (.op .mul (.var 1) (.int c1)) (.op .mod (.blt .int (.cons (.var 2) .nil)) (.int c2))) (.int c3)) .nil)) (.int c4))) .nil)) (.cons (.ret (.dict (.cons (.str key) (.rev (.blt .list (.cons (.sl (.var 0) .none (.some (.int cap))) .nil))) (.cons (.str "mixed") (.var 1) (.cons (.str "draws") (.int 0) .nil))))) .nil)))
theorem cut_map {α β : Type} (f : α → β) (xs : List α) (lo hi : Option Int) : cutD (xs.map f) lo hi = (cutD xs lo hi).map f := by
  unfold cutD
  rw [List.length_map, List.map_take, List.map_drop]
theorem merge3 {key : Str} (k1 : key ≠ "mixed") (k2 : key ≠ "draws") {l a b : D} : mergeD [] [(.inr key, l), (.inr "mixed", a), (.inr "draws", b)] = dkD key l a b := by
  have h2 : ("mixed" : Str) ≠ "draws" := by decide +kernel
  have h1 : ¬ (key = "mixed") := k1
  have h3 : ¬ (key = "draws") := k2
  simp [mergeD, putD, dkD, h1, h2, h3]
theorem get_last {α : Type} {l : List α} {x : α} {k : Nat} (h : k = l.length) : (l ++ [x])[k]? = some x := by rw [h, List.getElem?_append_right (Nat.le_refl _), Nat.sub_self]; rfl
theorem deck_ok {C : Ctx} {key : Str} {c0 c1 c2 c3 c4 cap : Int} {ns : List Int} {st : Sto} {x y : Option D} (k1 : key ≠ "mixed") (k2 : key ≠ "draws") (h0 : Cn c0) (h1 : Cn c1) (h2 : Cn c2) (h3 : Cn c3) (h4 : Cn c4) (hl : ns.length ≤ 1000) :
    ∃ n m st', evSs C (deckS key c0 c1 c2 c3 c4 cap) [some (.fz (ns.map D.int)), x, y] st = .rt (.loc n) st' ∧ Deck key st' n m 0 := by
  obtain ⟨xs, hxs⟩ : ∃ xs, xs = cutD ns none (some cap) := ⟨_, rfl⟩
  have hxl : xs.length ≤ 1000 := by rw [hxs]; exact Nat.le_trans (cutD_len _ _ _) hl
  have ec : ∀ s : Sto, slD (.fz (ns.map D.int)) none (some cap) s = some (.loc s.length, s ++ [.lst (xs.map D.int)]) := fun s => by
    simp only [slD, cut_map, ← hxs]
  have vf : ∀ e s, vGet 0 (some (.fz (ns.map D.int)) :: e) s = .ok (.fz (ns.map D.int)) s := fun _ _ => vGet_ok rfl rfl
  obtain ⟨s1, hs1⟩ : ∃ s, s = st ++ [Ob.lst (xs.map D.int)] := ⟨_, rfl⟩
  have g1 : s1[st.length]? = some (.lst (xs.map D.int)) := by rw [hs1]; exact get_last rfl
  have ei : itD (.loc st.length) s1 = .ok (itLoc st.length xs.length) s1 := by
    simp [itD, lenAt, g1]
  unfold deckS
  rw [evSs_cons]
  simp only [evS, evE, Res.then, SR.bind, List.set_cons_zero, List.set_cons_succ]
  rw [evSs_cons]
  simp only [evS, evI, evE, evO, vf, Res.bind, partD, ec, ofO, ← hs1, ei, Res.then]
  have n2 : c2 ≠ 0 := by have := h2.1; omega
  have n4 : c4 ≠ 0 := by have := h4.1; omega
  obtain ⟨env', st', e2, e3⟩ := loop_inv (it := itLoc st.length xs.length) (g := gT (.nm 2)) (body := evSs C (.cons (.set 1 (.op .mod (.blt .int (.cons (.op .add (.op .add (.op .mul (.var 1) (.int c1)) (.op .mod (.blt .int (.cons (.var 2) .nil)) (.int c2))) (.int c3)) .nil)) (.int c4))) .nil)) (env := [some (.fz (ns.map D.int)), some (.int c0), y]) (st := s1)
    (fun i env s => s = s1 ∧ ∃ (a : Int) (z : Option D), env = [some (.fz (ns.map D.int)), some (.int a), z] ∧ 0 ≤ a ∧ a < 4294967296) ⟨rfl, c0, y, rfl, Int.le_of_lt h0.1, h0.2⟩
    (fun i env s hi h => by
      obtain ⟨rfl, a, z, rfl, a0, a1⟩ := h
      have hi' : i < xs.length := hi
      have e1 : mulI a c1 = some (a * c1) := mulI_ok (abs_lt (k := 32) a0 a1) (abs_lt (k := 32) (Int.le_of_lt h1.1) h1.2) (by omega) (by omega) (by omega)
      obtain ⟨g, hg⟩ : ∃ g, g = (a * c1 + xs[i].fmod c2 + c3).fmod c4 := ⟨_, rfl⟩
      have gr := fmod_rng (i := a * c1 + xs[i].fmod c2 + c3) h4.1
      rw [← hg] at gr
      refine ⟨.int xs[i], _, _, _, ?_, rfl, .inl ?_, rfl, g, some (.int xs[i]), rfl, gr.1, Int.lt_trans gr.2 h4.2⟩
      · simp [itLoc, lenAt, g1, List.getElem?_eq_getElem hi']
      · simp only [evSs, evS, evE, evL, vGet, List.getElem?_cons_zero, List.getElem?_cons_succ, List.set_cons_zero, List.set_cons_succ, Res.bind, Res.then, SR.bind, ofO, opD, addD, mul2D, mulD, alt2, int2, bfD, intD, e1, modI_ok n2, modI_ok n4, Option.map_some, ← hg])
    (fun env s h => by
      obtain ⟨rfl, _⟩ := h
      simp [itLoc, lenAt, g1])
  obtain ⟨rfl, a, z, rfl, a0, a1⟩ := e3
  rw [e2]
  simp only [SR.bind]
  obtain ⟨n, hn⟩ : ∃ n, n = st'.length := ⟨_, rfl⟩
  -- the dict
  have lx : (xs.map D.int).length ≤ 100000 := by rw [List.length_map]; omega
  obtain ⟨t1, ht1⟩ : ∃ s, s = st' ++ [Ob.dK []] := ⟨_, rfl⟩
  obtain ⟨t2, ht2⟩ : ∃ s, s = t1 ++ [Ob.lst (xs.map D.int)] := ⟨_, rfl⟩
  obtain ⟨t3, ht3⟩ : ∃ s, s = t2 ++ [Ob.lst (xs.map D.int)] := ⟨_, rfl⟩
  obtain ⟨t4, ht4⟩ : ∃ s, s = t3 ++ [Ob.lst (xs.map D.int).reverse] := ⟨_, rfl⟩
  have l1 : t1.length = n + 1 := by rw [ht1, hn]; simp
  have l2 : t2.length = n + 2 := by rw [ht2, List.length_append, l1]; rfl
  have l3 : t3.length = n + 3 := by rw [ht3, List.length_append, l2]; rfl
  have l4 : t4.length = n + 4 := by rw [ht4, List.length_append, l3]; rfl
  have q2 : t2[t1.length]? = some (.lst (xs.map D.int)) := by rw [ht2]; exact get_last rfl
  have q3 : t3[t2.length]? = some (.lst (xs.map D.int)) := by rw [ht3]; exact get_last rfl
  have q4 : t4[n]? = some (.dK []) := by
    rw [ht4, List.getElem?_append_left (by omega), ht3, List.getElem?_append_left (by omega), ht2, List.getElem?_append_left (by omega), ht1]
    exact get_last hn
  have eli : listD [.loc t1.length] t2 = some (.loc t2.length, t3) := by simp [listD, seqD, q2, ht3]
  have erv : rev2D (.loc t2.length) t3 = some (.loc t3.length, t4) := by simp [rev2D, revD, q3, ht4]
  refine ⟨n, t3.length, t4.set n (.dK (dkD key (.loc t3.length) (.int a) (.int 0))), ?_, by omega, ⟨a, by rw [get_set, if_pos rfl, if_pos (by omega)], a0, a1⟩, xs.reverse, ?_, by rw [List.length_reverse]; exact hxl⟩
  · simp only [evSs, evS, evE, evL, evP, evO, dispF, pairsF, vGet, List.getElem?_cons_zero, List.getElem?_cons_succ, Res.bind, Res.then, SR.bind, ofO, partD, ec, bfD, ← ht1, ← ht2, eli, erv, ← hn, dispEnd, q4, keysD, mapO, keyD, Option.map_some, merge3 k1 k2, List.length_cons, List.length_nil]
    simp
  · rw [get_set, if_neg (by omega), List.map_reverse, ht4]
    exact get_last rfl
end Q
end

section
set_option linter.all false
set_option autoImplicit false
set_option maxRecDepth 100000
/-! The program's functions by syntax. -/
namespace Q
open PySem
def b_f_is_integer : SL := (.cons (.ret (.and (.isi (.var 0) .int) (.not (.isi (.var 0) .bool)))) .nil)
def f_is_integer : Fd := ⟨["thing"], ["thing"], b_f_is_integer, none⟩
def b_f_is_natural : SL := (.cons (.ret (.and (.call 0 (.cons (.var 0) .nil)) (.cmp .ge (.var 0) (.int 0)))) .nil)
def f_is_natural : Fd := ⟨["thing"], ["thing"], b_f_is_natural, none⟩
def b_f_is_pair : SL := (.cons (.ret (.and (.isi (.var 0) .tup) (.cmp .eq (.blt .len (.cons (.var 0) .nil)) (.int 2)))) .nil)
def f_is_pair : Fd := ⟨["thing"], ["thing"], b_f_is_pair, none⟩
def b_f_is_triple : SL := (.cons (.ret (.and (.isi (.var 0) .tup) (.cmp .eq (.blt .len (.cons (.var 0) .nil)) (.int 3)))) .nil)
def f_is_triple : Fd := ⟨["thing"], ["thing"], b_f_is_triple, none⟩
def b_f_is_scheme : SL := (.cons (.ite (.not (.call 2 (.cons (.var 0) .nil))) (.cons (.ret (.bl false)) .nil) .nil) (.cons (.asg (.tp (.cons (.nm 1) (.cons (.nm 2) .nil))) (.var 0)) (.cons (.ite (.or (.not (.call 0 (.cons (.var 1) .nil))) (.or (.not (.call 0 (.cons (.var 2) .nil))) (.not (.chain .le .le (.int 1) (.var 1) (.int 3))))) (.cons (.ret (.bl false)) .nil) .nil) (.cons (.ret (.chain .le .le (.op .fdiv (.call 6 (.cons (.var 0) .nil)) (.int 2)) (.var 2) (.op .sub (.call 6 (.cons (.var 0) .nil)) (.int 1)))) .nil))))
def f_is_scheme : Fd := ⟨["thing", "k", "a"], ["thing"], b_f_is_scheme, none⟩
def b_f_need_scheme : SL := (.cons (.ite (.not (.call 4 (.cons (.var 0) .nil))) (.cons (.raise 0 (.var 0)) .nil) .nil) .nil)
def f_need_scheme : Fd := ⟨["scheme"], ["scheme"], b_f_need_scheme, none⟩
def b_f_radix : SL := (.cons (.ret (.op .shl (.int 1) (.ix (.var 0) (.int 0)))) .nil)
def f_radix : Fd := ⟨["scheme"], ["scheme"], b_f_radix, none⟩
def b_f_is_digit : SL := (.cons (.ret (.and (.call 0 (.cons (.var 1) .nil)) (.cmp .le (.blt .abs (.cons (.var 1) .nil)) (.ix (.var 0) (.int 1))))) .nil)
def f_is_digit : Fd := ⟨["scheme", "thing"], ["scheme", "thing"], b_f_is_digit, none⟩
def b_f_is_string : SL := (.cons (.ret (.and (.isi (.var 1) .tup) (.all (.val (.var 1)) (.nm 2) (.call 7 (.cons (.var 0) (.cons (.var 2) .nil))) [2]))) .nil)
def f_is_string : Fd := ⟨["scheme", "thing", "digit"], ["scheme", "thing"], b_f_is_string, (some "<genexpr>")⟩
def b_f_need_string : SL := (.cons (.ite (.not (.call 8 (.cons (.var 0) (.cons (.var 1) .nil)))) (.cons (.raise 1 (.var 1)) .nil) .nil) .nil)
def f_need_string : Fd := ⟨["scheme", "string"], ["scheme", "string"], b_f_need_string, none⟩
def b_f_bound : SL := (.cons (.expr (.call 5 (.cons (.var 0) .nil))) (.cons (.ret (.call 66 (.cons (.ix (.var 0) (.int 1)) (.cons (.op .sub (.call 6 (.cons (.var 0) .nil)) (.int 1)) .nil)))) .nil))
def f_bound : Fd := ⟨["scheme"], ["scheme"], b_f_bound, none⟩
def b_f_value : SL := (.cons (.expr (.call 5 (.cons (.var 0) .nil))) (.cons (.expr (.call 9 (.cons (.var 0) (.cons (.var 1) .nil)))) (.cons (.set 2 (.int 0)) (.cons (.for (.nm 3) (.val (.var 1)) (.cons (.set 2 (.op .add (.op .mul (.var 2) (.call 6 (.cons (.var 0) .nil))) (.var 3))) .nil)) (.cons (.ret (.var 2)) .nil)))))
def f_value : Fd := ⟨["scheme", "string", "total", "digit"], ["scheme", "string"], b_f_value, none⟩
def b_f_greatest : SL := (.cons (.expr (.call 5 (.cons (.var 0) .nil))) (.cons (.ite (.not (.call 1 (.cons (.var 1) .nil))) (.cons (.raise 5 (.var 1)) .nil) .nil) (.cons (.ret (.call 16 (.cons (.var 0) (.cons (.var 1) .nil)))) .nil)))
def f_greatest : Fd := ⟨["scheme", "m"], ["scheme", "m"], b_f_greatest, none⟩
def b_f_need_length_and_number : SL := (.cons (.expr (.call 5 (.cons (.var 0) .nil))) (.cons (.ite (.not (.call 1 (.cons (.var 1) .nil))) (.cons (.raise 5 (.var 1)) .nil) .nil) (.cons (.ite (.not (.call 0 (.cons (.var 2) .nil))) (.cons (.raise 5 (.var 2)) .nil) .nil) .nil)))
def f_need_length_and_number : Fd := ⟨["scheme", "m", "number"], ["scheme", "m", "number"], b_f_need_length_and_number, none⟩
def b_f_most : SL := (.cons (.set 2 (.op .shl (.int 1) (.op .mul (.ix (.var 0) (.int 0)) (.var 1)))) (.cons (.ret (.op .fdiv (.op .mul (.ix (.var 0) (.int 1)) (.op .sub (.var 2) (.int 1))) (.op .sub (.call 6 (.cons (.var 0) .nil)) (.int 1)))) .nil))
def f_most : Fd := ⟨["scheme", "m", "power"], ["scheme", "m"], b_f_most, none⟩
def b_f_continuations : SL := (.cons (.set 3 (.ix (.var 0) (.int 1))) (.cons (.set 4 (.call 16 (.cons (.var 0) (.cons (.var 1) .nil)))) (.cons (.set 5 (.lst .nil)) (.cons (.for (.nm 6) (.r2 (.neg (.var 3)) (.op .add (.var 3) (.int 1))) (.cons (.set 7 (.op .sub (.var 2) (.op .shl (.var 6) (.op .mul (.ix (.var 0) (.int 0)) (.var 1))))) (.cons (.ite (.chain .le .le (.neg (.var 4)) (.var 7) (.var 4)) (.cons (.expr (.mt .append (.var 5) (.cons (.tup (.cons (.var 6) (.cons (.var 7) .nil))) .nil))) .nil) .nil) .nil))) (.cons (.ret (.var 5)) .nil)))))
def f_continuations : Fd := ⟨["scheme", "left", "rest", "a", "most", "found", "digit", "later"], ["scheme", "left", "rest"], b_f_continuations, none⟩
def b_f_registers : SL := (.cons (.expr (.call 5 (.cons (.var 0) .nil))) (.cons (.expr (.call 9 (.cons (.var 0) (.cons (.var 1) .nil)))) (.cons (.set 2 (.tup (.cons (.tup .nil) (.cons (.tup .nil) .nil)))) (.cons (.for (.nm 3) (.val (.var 1)) (.cons (.set 2 (.call 22 (.cons (.var 0) (.cons (.var 2) (.cons (.var 3) .nil))))) .nil)) (.cons (.ret (.var 2)) .nil)))))
def f_registers : Fd := ⟨["scheme", "string", "pair", "digit"], ["scheme", "string"], b_f_registers, none⟩
def b_f_appended : SL := (.cons (.expr (.call 5 (.cons (.var 0) .nil))) (.cons (.ite (.not (.call 20 (.cons (.var 0) (.cons (.var 1) .nil)))) (.cons (.raise 1 (.var 1)) .nil) .nil) (.cons (.ite (.not (.call 7 (.cons (.var 0) (.cons (.var 2) .nil)))) (.cons (.raise 1 (.var 2)) .nil) .nil) (.cons (.ret (.call 22 (.cons (.var 0) (.cons (.var 1) (.cons (.var 2) .nil))))) .nil))))
def f_appended : Fd := ⟨["scheme", "pair", "digit"], ["scheme", "pair", "digit"], b_f_appended, none⟩
def b_f_is_pair_of_ordinary : SL := (.cons (.ite (.not (.call 2 (.cons (.var 1) .nil))) (.cons (.ret (.bl false)) .nil) .nil) (.cons (.asg (.tp (.cons (.nm 2) (.cons (.nm 3) .nil))) (.var 1)) (.cons (.ite (.or (.not (.call 21 (.cons (.var 0) (.cons (.var 2) .nil)))) (.not (.call 21 (.cons (.var 0) (.cons (.var 3) .nil))))) (.cons (.ret (.bl false)) .nil) .nil) (.cons (.ret (.cmp .eq (.blt .len (.cons (.var 2) .nil)) (.blt .len (.cons (.var 3) .nil)))) .nil))))
def f_is_pair_of_ordinary : Fd := ⟨["scheme", "thing", "one", "other"], ["scheme", "thing"], b_f_is_pair_of_ordinary, none⟩
def b_f_is_ordinary : SL := (.cons (.ite (.not (.isi (.var 1) .tup)) (.cons (.ret (.bl false)) .nil) .nil) (.cons (.ret (.all (.val (.var 1)) (.nm 2) (.and (.call 0 (.cons (.var 2) .nil)) (.chain .le .lt (.int 0) (.var 2) (.call 6 (.cons (.var 0) .nil)))) [2])) .nil))
def f_is_ordinary : Fd := ⟨["scheme", "thing", "digit"], ["scheme", "thing"], b_f_is_ordinary, (some "<genexpr>")⟩
def b_f_after : SL := (.cons (.asg (.tp (.cons (.nm 3) (.cons (.nm 4) .nil))) (.var 1)) (.cons (.set 5 (.call 6 (.cons (.var 0) .nil))) (.cons (.set 6 (.ite (.cmp .ge (.var 2) (.int 0)) (.tupS (.var 3) (.cons (.var 2) .nil)) (.tupS (.var 4) (.cons (.op .add (.var 5) (.var 2)) .nil)))) (.cons (.set 7 (.ite (.cmp .gt (.var 2) (.int 0)) (.tupS (.var 3) (.cons (.op .sub (.var 2) (.int 1)) .nil)) (.tupS (.var 4) (.cons (.op .add (.op .sub (.var 5) (.int 1)) (.var 2)) .nil)))) (.cons (.ret (.tup (.cons (.var 6) (.cons (.var 7) .nil)))) .nil)))))
def f_after : Fd := ⟨["scheme", "pair", "digit", "whole", "less", "r", "new_whole", "new_less"], ["scheme", "pair", "digit"], b_f_after, none⟩
def b_f_is_look : SL := (.cons (.ite (.not (.call 3 (.cons (.var 0) .nil))) (.cons (.ret (.bl false)) .nil) .nil) (.cons (.asg (.tp (.cons (.nm 1) (.cons (.nm 2) (.cons (.nm 3) .nil)))) (.var 0)) (.cons (.ret (.and (.call 1 (.cons (.var 1) .nil)) (.and (.call 1 (.cons (.var 2) .nil)) (.call 25 (.cons (.var 3) .nil))))) .nil)))
def f_is_look : Fd := ⟨["thing", "t", "s", "kind"], ["thing"], b_f_is_look, none⟩
def b_f_need_look : SL := (.cons (.ite (.not (.call 23 (.cons (.var 0) .nil))) (.cons (.raise 2 (.var 0)) .nil) .nil) .nil)
def f_need_look : Fd := ⟨["look"], ["look"], b_f_need_look, none⟩
def b_f_is_kind : SL := (.cons (.ret (.cmp .isin (.var 0) (.tup (.cons (.str "one") (.cons (.str "pair") .nil))))) .nil)
def f_is_kind : Fd := ⟨["thing"], ["thing"], b_f_is_kind, none⟩
def b_f_need_kind : SL := (.cons (.ite (.not (.call 25 (.cons (.var 0) .nil))) (.cons (.raise 5 (.var 0)) .nil) .nil) .nil)
def f_need_kind : Fd := ⟨["kind"], ["kind"], b_f_need_kind, none⟩
def b_f_is_machine : SL := (.cons (.ite (.not (.call 3 (.cons (.var 0) .nil))) (.cons (.ret (.bl false)) .nil) .nil) (.cons (.asg (.tp (.cons (.nm 1) (.cons (.nm 2) (.cons (.nm 3) .nil)))) (.var 0)) (.cons (.ite (.or (.not (.call 4 (.cons (.var 1) .nil))) (.or (.not (.call 23 (.cons (.var 2) .nil))) (.not (.isi (.var 3) .tup)))) (.cons (.ret (.bl false)) .nil) .nil) (.cons (.ite (.or (.cmp .ge (.ix (.var 2) (.int 1)) (.bitl (.blt .len (.cons (.var 3) .nil)))) (.cmp .ne (.blt .len (.cons (.var 3) .nil)) (.op .shl (.int 1) (.ix (.var 2) (.int 1))))) (.cons (.ret (.bl false)) .nil) .nil) (.cons (.ret (.all (.val (.var 3)) (.nm 4) (.call 67 (.cons (.var 1) (.cons (.var 4) .nil))) [4])) .nil)))))
def f_is_machine : Fd := ⟨["thing", "scheme", "look", "table", "row"], ["thing"], b_f_is_machine, (some "<genexpr>")⟩
def b_f_need_machine : SL := (.cons (.ite (.not (.call 27 (.cons (.var 0) .nil))) (.cons (.raise 3 (.var 0)) .nil) .nil) .nil)
def f_need_machine : Fd := ⟨["machine"], ["machine"], b_f_need_machine, none⟩
def b_f_is_operands : SL := (.cons (.expr (.call 5 (.cons (.var 0) .nil))) (.cons (.expr (.call 26 (.cons (.var 1) .nil))) (.cons (.ite (.not (.call 3 (.cons (.var 2) .nil))) (.cons (.ret (.bl false)) .nil) .nil) (.cons (.asg (.tp (.cons (.nm 3) (.cons (.nm 4) (.cons (.nm 5) .nil)))) (.var 2)) (.cons (.ite (.or (.not (.call 38 (.cons (.var 1) (.cons (.var 3) .nil)))) (.not (.call 39 (.cons (.var 4) (.cons (.var 5) .nil))))) (.cons (.ret (.bl false)) .nil) .nil) (.cons (.ret (.call 30 (.cons (.var 0) (.cons (.call 31 (.cons (.var 1) (.cons (.var 3) .nil))) (.cons (.var 4) .nil))))) .nil))))))
def f_is_operands : Fd := ⟨["scheme", "kind", "thing", "dividend", "d", "n"], ["scheme", "kind", "thing"], b_f_is_operands, none⟩
def b_f_is_within : SL := (.cons (.ret (.cmp .le (.op .mul (.blt .abs (.cons (.var 1) .nil)) (.op .sub (.call 6 (.cons (.var 0) .nil)) (.int 1))) (.op .mul (.ix (.var 0) (.int 1)) (.var 2)))) .nil)
def f_is_within : Fd := ⟨["scheme", "w", "d"], ["scheme", "w", "d"], b_f_is_within, none⟩
def b_f_whole : SL := (.cons (.ret (.ite (.cmp .eq (.var 0) (.str "one")) (.var 1) (.op .add (.ix (.var 1) (.int 0)) (.ix (.var 1) (.int 1))))) .nil)
def f_whole : Fd := ⟨["kind", "remainder"], ["kind", "remainder"], b_f_whole, none⟩
def b_f_estimate : SL := (.cons (.expr (.call 36 (.cons (.var 0) (.cons (.var 1) (.cons (.var 2) (.cons (.var 3) .nil)))))) (.cons (.asg (.tp (.cons (.nm 4) (.cons (.nm 5) (.cons (.nm 6) .nil)))) (.var 0)) (.cons (.ret (.call 34 (.cons (.var 4) (.cons (.var 5) (.cons (.var 1) (.cons (.var 2) (.cons (.var 3) .nil))))))) .nil)))
def f_estimate : Fd := ⟨["machine", "remainder", "d", "n", "scheme", "look", "_"], ["machine", "remainder", "d", "n"], b_f_estimate, none⟩
def b_f_selected : SL := (.cons (.expr (.call 36 (.cons (.var 0) (.cons (.var 1) (.cons (.var 2) (.cons (.var 3) .nil)))))) (.cons (.asg (.tp (.cons (.nm 4) (.cons (.nm 5) (.cons (.nm 6) .nil)))) (.var 0)) (.cons (.ret (.call 35 (.cons (.var 0) (.cons (.call 34 (.cons (.var 4) (.cons (.var 5) (.cons (.var 1) (.cons (.var 2) (.cons (.var 3) .nil)))))) .nil)))) .nil)))
def f_selected : Fd := ⟨["machine", "remainder", "d", "n", "scheme", "look", "_"], ["machine", "remainder", "d", "n"], b_f_selected, none⟩
def b_f_cell_of : SL := (.cons (.asg (.tp (.cons (.nm 5) (.cons (.nm 6) (.cons (.nm 7) .nil)))) (.var 1)) (.cons (.set 8 (.op .sub (.op .shr (.op .shl (.var 3) (.var 6)) (.var 4)) (.op .shl (.int 1) (.var 6)))) (.cons (.set 9 (.ite (.cmp .eq (.var 7) (.str "one")) (.tup (.cons (.var 2) .nil)) (.var 2))) (.cons (.set 10 (.sum (.val (.var 9)) (.nm 11) (.op .shr (.op .shl (.var 11) (.op .add (.ix (.var 0) (.int 0)) (.var 5))) (.var 4)) [11])) (.cons (.ret (.tup (.cons (.var 8) (.cons (.var 10) .nil)))) .nil)))))
def f_cell_of : Fd := ⟨["scheme", "look", "remainder", "d", "n", "t", "s", "kind", "i", "words", "y", "word"], ["scheme", "look", "remainder", "d", "n"], b_f_cell_of, (some "<genexpr>")⟩
def b_f_digit_at : SL := (.cons (.asg (.tp (.cons (.nm 2) (.cons (.nm 3) .nil))) (.var 1)) (.cons (.asg (.tp (.cons (.nm 4) (.cons (.nm 5) .nil))) (.ix (.ix (.var 0) (.int 2)) (.var 2))) (.cons (.set 6 (.op .sub (.var 3) (.var 4))) (.cons (.ret (.ite (.chain .le .lt (.int 0) (.var 6) (.blt .len (.cons (.var 5) .nil))) (.ix (.var 5) (.var 6)) .non)) .nil))))
def f_digit_at : Fd := ⟨["machine", "cell", "i", "y", "lowest", "string", "at"], ["machine", "cell"], b_f_digit_at, none⟩
def b_f_need_sight : SL := (.cons (.expr (.call 28 (.cons (.var 0) .nil))) (.cons (.set 4 (.ix (.ix (.var 0) (.int 1)) (.int 2))) (.cons (.ite (.or (.not (.call 38 (.cons (.var 4) (.cons (.var 1) .nil)))) (.not (.call 39 (.cons (.var 2) (.cons (.var 3) .nil))))) (.cons (.raise 4 (.tup (.cons (.var 1) (.cons (.var 2) (.cons (.var 3) .nil))))) .nil) .nil) .nil)))
def f_need_sight : Fd := ⟨["machine", "remainder", "d", "n", "kind"], ["machine", "remainder", "d", "n"], b_f_need_sight, none⟩
def b_f_is_remainder : SL := (.cons (.ite (.cmp .eq (.var 0) (.str "one")) (.cons (.ret (.call 0 (.cons (.var 1) .nil))) .nil) .nil) (.cons (.ret (.and (.call 2 (.cons (.var 1) .nil)) (.and (.call 0 (.cons (.ix (.var 1) (.int 0)) .nil)) (.call 0 (.cons (.ix (.var 1) (.int 1)) .nil))))) .nil))
def f_is_remainder : Fd := ⟨["kind", "thing"], ["kind", "thing"], b_f_is_remainder, none⟩
def b_f_is_divisor : SL := (.cons (.ite (.or (.not (.call 0 (.cons (.var 0) .nil))) (.not (.call 0 (.cons (.var 1) .nil)))) (.cons (.ret (.bl false)) .nil) .nil) (.cons (.ret (.and (.cmp .ge (.var 1) (.int 1)) (.and (.cmp .gt (.var 0) (.int 0)) (.cmp .eq (.bitl (.var 0)) (.op .add (.var 1) (.int 1)))))) .nil))
def f_is_divisor : Fd := ⟨["d", "n"], ["d", "n"], b_f_is_divisor, none⟩
def b_f_reduced : SL := (.cons (.for (.nm 3) (.val (.tup (.cons (.var 0) (.cons (.var 1) (.cons (.var 2) .nil))))) (.cons (.ite (.not (.call 0 (.cons (.var 3) .nil))) (.cons (.raise 5 (.var 3)) .nil) .nil) .nil)) (.cons (.ret (.call 47 (.cons (.var 0) (.cons (.var 1) (.cons (.var 2) .nil))))) .nil))
def f_reduced : Fd := ⟨["u", "v", "z", "word"], ["u", "v", "z"], b_f_reduced, none⟩
def b_f_run : SL := (.cons (.expr (.call 68 (.cons (.var 0) (.cons (.var 1) (.cons (.var 2) .nil))))) (.cons (.asg (.tp (.cons (.nm 3) (.cons (.nm 4) .nil))) (.call 45 (.cons (.var 0) (.cons (.var 1) (.cons (.var 2) .nil))))) (.cons (.ret (.tup (.cons (.blt .tuple (.cons (.var 3) .nil)) (.cons (.ix (.var 4) (.neg (.int 1))) .nil)))) .nil)))
def f_run : Fd := ⟨["machine", "operands", "m", "string", "passed"], ["machine", "operands", "m"], b_f_run, none⟩
def b_f_remainders : SL := (.cons (.expr (.call 68 (.cons (.var 0) (.cons (.var 1) (.cons (.var 2) .nil))))) (.cons (.asg (.tp (.cons (.nm 3) (.cons (.nm 4) .nil))) (.call 45 (.cons (.var 0) (.cons (.var 1) (.cons (.var 2) .nil))))) (.cons (.ret (.blt .tuple (.cons (.var 4) .nil))) .nil)))
def f_remainders : Fd := ⟨["machine", "operands", "m", "_", "passed"], ["machine", "operands", "m"], b_f_remainders, none⟩
def b_f_is_in_bounds : SL := (.cons (.expr (.call 5 (.cons (.var 0) .nil))) (.cons (.ite (.not (.call 0 (.cons (.var 1) .nil))) (.cons (.raise 5 (.var 1)) .nil) .nil) (.cons (.ite (.not (.call 70 (.cons (.var 2) .nil))) (.cons (.raise 5 (.var 2)) .nil) .nil) (.cons (.ret (.call 30 (.cons (.var 0) (.cons (.var 1) (.cons (.var 2) .nil))))) .nil))))
def f_is_in_bounds : Fd := ⟨["scheme", "w", "d"], ["scheme", "w", "d"], b_f_is_in_bounds, none⟩
def b_f_followed : SL := (.cons (.asg (.tp (.cons (.nm 3) (.cons (.nm 4) (.cons (.nm 5) .nil)))) (.var 0)) (.cons (.asg (.tp (.cons (.nm 6) (.cons (.nm 7) (.cons (.nm 8) .nil)))) (.var 1)) (.cons (.set 9 (.lst .nil)) (.cons (.set 10 (.lst (.cons (.var 6) .nil))) (.cons (.for (.nm 5) (.r1 (.var 2)) (.cons (.set 11 (.call 35 (.cons (.var 0) (.cons (.call 34 (.cons (.var 3) (.cons (.var 4) (.cons (.var 6) (.cons (.var 7) (.cons (.var 8) .nil)))))) .nil)))) (.cons (.ite (.cmp .is (.var 11) .non) (.cons (.brk) .nil) .nil) (.cons (.set 6 (.call 46 (.cons (.var 3) (.cons (.ix (.var 4) (.int 2)) (.cons (.var 6) (.cons (.op .mul (.var 11) (.var 7)) .nil)))))) (.cons (.expr (.mt .append (.var 9) (.cons (.var 11) .nil))) (.cons (.expr (.mt .append (.var 10) (.cons (.var 6) .nil))) .nil)))))) (.cons (.ret (.tup (.cons (.var 9) (.cons (.var 10) .nil)))) .nil))))))
def f_followed : Fd := ⟨["machine", "operands", "m", "scheme", "look", "_", "remainder", "d", "n", "string", "passed", "digit"], ["machine", "operands", "m"], b_f_followed, none⟩
def b_f_stepped : SL := (.cons (.set 4 (.ix (.var 0) (.int 0))) (.cons (.ite (.cmp .eq (.var 1) (.str "one")) (.cons (.ret (.op .sub (.op .shl (.var 2) (.var 4)) (.var 3))) .nil) .nil) (.cons (.asg (.tp (.cons (.nm 5) (.cons (.nm 6) .nil))) (.var 2)) (.cons (.ret (.call 47 (.cons (.op .shl (.var 5) (.var 4)) (.cons (.op .shl (.var 6) (.var 4)) (.cons (.neg (.var 3)) .nil))))) .nil))))
def f_stepped : Fd := ⟨["scheme", "kind", "remainder", "multiple", "k", "p", "c"], ["scheme", "kind", "remainder", "multiple"], b_f_stepped, none⟩
def b_f_without_carries : SL := (.cons (.set 3 (.op .bor (.op .bor (.op .band (.var 0) (.var 1)) (.op .band (.var 0) (.var 2))) (.op .band (.var 1) (.var 2)))) (.cons (.ret (.tup (.cons (.op .bxor (.op .bxor (.var 0) (.var 1)) (.var 2)) (.cons (.op .mul (.int 2) (.var 3)) .nil)))) .nil))
def f_without_carries : Fd := ⟨["u", "v", "z", "majority"], ["u", "v", "z"], b_f_without_carries, none⟩
def b_f_is_reached : SL := (.cons (.expr (.call 54 (.cons (.var 0) (.cons (.var 1) (.cons (.var 2) .nil))))) (.cons (.ret (.call 59 (.cons (.var 0) (.cons (.var 1) (.cons (.var 2) .nil))))) .nil))
def f_is_reached : Fd := ⟨["scheme", "look", "cell"], ["scheme", "look", "cell"], b_f_is_reached, none⟩
def b_f_reached : SL := (.cons (.expr (.call 5 (.cons (.var 0) .nil))) (.cons (.expr (.call 24 (.cons (.var 1) .nil))) (.cons (.ite (.not (.call 72 (.cons (.var 1) (.cons (.var 2) .nil)))) (.cons (.raise 5 (.var 2)) .nil) .nil) (.cons (.ret (.call 58 (.cons (.var 0) (.cons (.var 1) (.cons (.var 2) .nil))))) .nil))))
def f_reached : Fd := ⟨["scheme", "look", "i"], ["scheme", "look", "i"], b_f_reached, none⟩
def b_f_judge_digit : SL := (.cons (.expr (.call 55 (.cons (.var 0) (.cons (.var 1) (.cons (.var 2) (.cons (.var 3) .nil)))))) (.cons (.ite (.call 53 (.cons (.var 0) (.cons (.var 1) (.cons (.var 2) (.cons (.var 3) .nil))))) (.cons (.ret (.tup (.cons (.str "suits") .nil))) .nil) .nil) (.cons (.ret (.tup (.cons (.str "operands") (.cons (.call 75 (.cons (.var 0) (.cons (.var 1) (.cons (.var 2) (.cons (.var 3) .nil))))) .nil)))) .nil)))
def f_judge_digit : Fd := ⟨["scheme", "look", "cell", "digit"], ["scheme", "look", "cell", "digit"], b_f_judge_digit, none⟩
def b_f_digit_holds : SL := (.cons (.expr (.call 55 (.cons (.var 0) (.cons (.var 1) (.cons (.var 2) (.cons (.var 3) .nil)))))) (.cons (.ite (.cmp .eq (.var 4) (.tup (.cons (.str "suits") .nil))) (.cons (.ret (.call 53 (.cons (.var 0) (.cons (.var 1) (.cons (.var 2) (.cons (.var 3) .nil)))))) .nil) .nil) (.cons (.ite (.or (.not (.call 2 (.cons (.var 4) .nil))) (.cmp .ne (.ix (.var 4) (.int 0)) (.str "operands"))) (.cons (.ret (.bl false)) .nil) .nil) (.cons (.ret (.call 73 (.cons (.var 0) (.cons (.var 1) (.cons (.var 2) (.cons (.var 3) (.cons (.ix (.var 4) (.int 1)) .nil))))))) .nil))))
def f_digit_holds : Fd := ⟨["scheme", "look", "cell", "digit", "thing"], ["scheme", "look", "cell", "digit", "thing"], b_f_digit_holds, none⟩
def b_f_suitable : SL := (.cons (.expr (.call 54 (.cons (.var 0) (.cons (.var 1) (.cons (.var 2) .nil))))) (.cons (.set 3 (.ix (.var 0) (.int 1))) (.cons (.ret (.blt .tuple (.cons (.lc (.r2 (.neg (.var 3)) (.op .add (.var 3) (.int 1))) (.nm 4) (.some (.call 53 (.cons (.var 0) (.cons (.var 1) (.cons (.var 2) (.cons (.var 4) .nil)))))) (.var 4) [4]) .nil))) .nil)))
def f_suitable : Fd := ⟨["scheme", "look", "cell", "a", "digit"], ["scheme", "look", "cell"], b_f_suitable, none⟩
def b_f_suits_cell : SL := (.cons (.ite (.not (.call 59 (.cons (.var 0) (.cons (.var 1) (.cons (.var 2) .nil))))) (.cons (.ret (.bl true)) .nil) .nil) (.cons (.ret (.not (.any (.val (.tup (.cons (.int 1) (.cons (.neg (.int 1)) .nil)))) (.nm 4) (.call 60 (.cons (.var 0) (.cons (.var 1) (.cons (.var 2) (.cons (.var 3) (.cons (.var 4) .nil)))))) [4]))) .nil))
def f_suits_cell : Fd := ⟨["scheme", "look", "cell", "digit", "side"], ["scheme", "look", "cell", "digit"], b_f_suits_cell, (some "<genexpr>")⟩
def b_f_need_cell : SL := (.cons (.expr (.call 5 (.cons (.var 0) .nil))) (.cons (.expr (.call 24 (.cons (.var 1) .nil))) (.cons (.ite (.not (.call 71 (.cons (.var 1) (.cons (.var 2) .nil)))) (.cons (.raise 7 (.var 2)) .nil) .nil) .nil)))
def f_need_cell : Fd := ⟨["scheme", "look", "cell"], ["scheme", "look", "cell"], b_f_need_cell, none⟩
def b_f_need_cell_and_digit : SL := (.cons (.expr (.call 54 (.cons (.var 0) (.cons (.var 1) (.cons (.var 2) .nil))))) (.cons (.ite (.not (.call 7 (.cons (.var 0) (.cons (.var 3) .nil)))) (.cons (.raise 1 (.var 3)) .nil) .nil) .nil))
def f_need_cell_and_digit : Fd := ⟨["scheme", "look", "cell", "digit"], ["scheme", "look", "cell", "digit"], b_f_need_cell_and_digit, none⟩
def b_f_spread : SL := (.cons (.ret (.ite (.cmp .eq (.ix (.var 0) (.int 2)) (.str "one")) (.int 1) (.int 2))) .nil)
def f_spread : Fd := ⟨["look"], ["look"], b_f_spread, none⟩
def b_f_ends : SL := (.cons (.asg (.tp (.cons (.nm 3) (.cons (.nm 4) (.cons (.nm 5) .nil)))) (.var 1)) (.cons (.set 6 (.call 6 (.cons (.var 0) .nil))) (.cons (.set 7 (.op .shl (.op .mul (.op .mul (.var 6) (.ix (.var 0) (.int 1))) (.op .add (.op .add (.op .shl (.int 1) (.var 4)) (.var 2)) (.int 1))) (.var 3))) (.cons (.set 8 (.neg (.op .fdiv (.neg (.var 7)) (.op .shl (.op .sub (.var 6) (.int 1)) (.var 4))))) (.cons (.ret (.tup (.cons (.op .sub (.op .sub (.int 1) (.var 8)) (.call 57 (.cons (.var 1) .nil))) (.cons (.op .sub (.var 8) (.int 1)) .nil)))) .nil)))))
def f_ends : Fd := ⟨["scheme", "look", "i", "t", "s", "_", "r", "top", "beyond"], ["scheme", "look", "i"], b_f_ends, none⟩
def b_f_some_fall_into : SL := (.cons (.asg (.tp (.cons (.nm 3) (.cons (.nm 4) .nil))) (.var 2)) (.cons (.asg (.tp (.cons (.nm 5) (.cons (.nm 6) .nil))) (.call 58 (.cons (.var 0) (.cons (.var 1) (.cons (.var 3) .nil))))) (.cons (.ret (.chain .le .le (.var 5) (.var 4) (.var 6))) .nil)))
def f_some_fall_into : Fd := ⟨["scheme", "look", "cell", "i", "y", "least", "most"], ["scheme", "look", "cell"], b_f_some_fall_into, none⟩
def b_f_is_left_behind : SL := (.cons (.asg (.tp (.cons (.nm 5) (.cons (.nm 6) (.cons (.nm 7) .nil)))) (.var 1)) (.cons (.asg (.tp (.cons (.nm 8) (.cons (.nm 9) .nil))) (.var 2)) (.cons (.set 10 (.ix (.var 0) (.int 1))) (.cons (.set 11 (.op .mul (.var 4) (.var 3))) (.cons (.ite (.cmp .eq (.var 11) (.var 10)) (.cons (.ret (.bl false)) .nil) .nil) (.cons (.set 12 (.op .mul (.var 4) (.call 61 (.cons (.var 1) (.cons (.var 9) (.cons (.var 4) .nil)))))) (.cons (.set 13 (.ite (.cmp .gt (.var 12) (.int 0)) (.op .add (.op .shl (.int 1) (.var 6)) (.var 8)) (.op .add (.op .add (.op .shl (.int 1) (.var 6)) (.var 8)) (.int 1)))) (.cons (.set 14 (.op .sub (.call 6 (.cons (.var 0) .nil)) (.int 1))) (.cons (.ret (.cmp .gt (.op .shl (.op .mul (.var 12) (.var 14)) (.var 6)) (.op .shl (.op .mul (.op .add (.op .mul (.var 11) (.var 14)) (.var 10)) (.var 13)) (.var 5)))) .nil)))))))))
def f_is_left_behind : Fd := ⟨["scheme", "look", "cell", "digit", "side", "t", "s", "_", "i", "y", "a", "turned", "edge", "divisor", "less"], ["scheme", "look", "cell", "digit", "side"], b_f_is_left_behind, none⟩
def b_f_edge : SL := (.cons (.ret (.ite (.cmp .eq (.var 2) (.int 1)) (.op .add (.var 1) (.call 57 (.cons (.var 0) .nil))) (.var 1))) .nil)
def f_edge : Fd := ⟨["look", "y", "side"], ["look", "y", "side"], b_f_edge, none⟩
def b_f_outermost : SL := (.cons (.asg (.tp (.cons (.nm 5) (.cons (.nm 6) (.cons (.nm 7) .nil)))) (.var 1)) (.cons (.asg (.tp (.cons (.nm 8) (.cons (.nm 9) .nil))) (.var 2)) (.cons (.set 10 (.ix (.var 0) (.int 1))) (.cons (.set 11 (.op .sub (.call 6 (.cons (.var 0) .nil)) (.int 1))) (.cons (.set 12 (.op .shl (.int 1) (.op .sub (.op .sub (.var 3) (.ix (.var 0) (.int 0))) (.var 5)))) (.cons (.set 13 (.op .shl (.op .add (.op .shl (.int 1) (.var 6)) (.var 8)) (.op .sub (.var 3) (.var 6)))) (.cons (.set 14 (.op .sub (.op .add (.var 13) (.op .shl (.int 1) (.op .sub (.var 3) (.var 6)))) (.int 1))) (.cons (.set 15 (.ite (.cmp .eq (.var 4) (.int 1)) (.op .sub (.op .mul (.op .add (.var 9) (.call 57 (.cons (.var 1) .nil))) (.var 12)) (.call 57 (.cons (.var 1) .nil))) (.op .mul (.var 9) (.var 12)))) (.cons (.set 16 (.op .mul (.var 4) (.var 15))) (.cons (.set 17 (.ite (.cmp .gt (.var 16) (.int 0)) (.blt .max2 (.cons (.var 13) (.cons (.neg (.op .fdiv (.op .mul (.neg (.var 16)) (.var 11)) (.var 10))) .nil))) (.var 14))) (.cons (.ite (.cmp .gt (.var 17) (.var 14)) (.cons (.set 17 (.var 14)) (.cons (.set 15 (.op .mul (.var 4) (.op .fdiv (.op .mul (.var 10) (.var 14)) (.var 11)))) .nil)) .nil) (.cons (.ret (.tup (.cons (.call 65 (.cons (.var 1) (.cons (.op .mul (.var 9) (.var 12)) (.cons (.var 12) (.cons (.var 15) .nil))))) (.cons (.var 17) (.cons (.var 3) .nil))))) .nil))))))))))))
def f_outermost : Fd := ⟨["scheme", "look", "cell", "n", "side", "t", "s", "_", "i", "y", "a", "less", "unit", "first", "last", "x", "size", "d"], ["scheme", "look", "cell", "n", "side"], b_f_outermost, none⟩
def b_f_divided : SL := (.cons (.ite (.cmp .eq (.ix (.var 0) (.int 2)) (.str "one")) (.cons (.ret (.var 3)) .nil) .nil) (.cons (.set 4 (.blt .max2 (.cons (.int 0) (.cons (.op .add (.op .sub (.op .sub (.var 3) (.var 1)) (.var 2)) (.int 1)) .nil)))) (.cons (.ret (.tup (.cons (.op .sub (.var 3) (.var 4)) (.cons (.var 4) .nil)))) .nil)))
def f_divided : Fd := ⟨["look", "least", "unit", "x", "c"], ["look", "least", "unit", "x"], b_f_divided, none⟩
def b_f_as_fraction : SL := (.cons (.set 2 (.blt .gcd (.cons (.var 0) (.cons (.var 1) .nil)))) (.cons (.ret (.tup (.cons (.op .fdiv (.var 0) (.var 2)) (.cons (.op .fdiv (.var 1) (.var 2)) .nil)))) .nil))
def f_as_fraction : Fd := ⟨["top", "bottom", "common"], ["top", "bottom"], b_f_as_fraction, none⟩
def b_f_is_row : SL := (.cons (.ite (.not (.call 2 (.cons (.var 1) .nil))) (.cons (.ret (.bl false)) .nil) .nil) (.cons (.asg (.tp (.cons (.nm 2) (.cons (.nm 3) .nil))) (.var 1)) (.cons (.ret (.and (.call 0 (.cons (.var 2) .nil)) (.and (.call 8 (.cons (.var 0) (.cons (.var 3) .nil))) (.cmp .gt (.blt .len (.cons (.var 3) .nil)) (.int 0))))) .nil)))
def f_is_row : Fd := ⟨["scheme", "thing", "lowest", "string"], ["scheme", "thing"], b_f_is_row, none⟩
def b_f_need_run : SL := (.cons (.expr (.call 28 (.cons (.var 0) .nil))) (.cons (.asg (.tp (.cons (.nm 3) (.cons (.nm 4) (.cons (.nm 5) .nil)))) (.var 0)) (.cons (.expr (.call 69 (.cons (.var 3) (.cons (.ix (.var 4) (.int 2)) (.cons (.var 1) (.cons (.var 2) .nil)))))) .nil)))
def f_need_run : Fd := ⟨["machine", "operands", "m", "scheme", "look", "_"], ["machine", "operands", "m"], b_f_need_run, none⟩
def b_f_need_start : SL := (.cons (.ite (.not (.call 29 (.cons (.var 0) (.cons (.var 1) (.cons (.var 2) .nil))))) (.cons (.raise 4 (.var 2)) .nil) .nil) (.cons (.ite (.not (.call 1 (.cons (.var 3) .nil))) (.cons (.raise 5 (.var 3)) .nil) .nil) .nil))
def f_need_start : Fd := ⟨["scheme", "kind", "operands", "m"], ["scheme", "kind", "operands", "m"], b_f_need_start, none⟩
def b_f_is_count : SL := (.cons (.ret (.and (.call 0 (.cons (.var 0) .nil)) (.cmp .ge (.var 0) (.int 1)))) .nil)
def f_is_count : Fd := ⟨["thing"], ["thing"], b_f_is_count, none⟩
def b_f_is_cell : SL := (.cons (.ret (.and (.call 2 (.cons (.var 1) .nil)) (.and (.call 72 (.cons (.var 0) (.cons (.ix (.var 1) (.int 0)) .nil))) (.call 0 (.cons (.ix (.var 1) (.int 1)) .nil))))) .nil)
def f_is_cell : Fd := ⟨["look", "thing"], ["look", "thing"], b_f_is_cell, none⟩
def b_f_is_part : SL := (.cons (.ret (.and (.call 1 (.cons (.var 1) .nil)) (.cmp .le (.bitl (.var 1)) (.ix (.var 0) (.int 1))))) .nil)
def f_is_part : Fd := ⟨["look", "thing"], ["look", "thing"], b_f_is_part, none⟩
def b_f_is_against : SL := (.cons (.ite (.not (.call 29 (.cons (.var 0) (.cons (.ix (.var 1) (.int 2)) (.cons (.var 4) .nil))))) (.cons (.ret (.bl false)) .nil) .nil) (.cons (.asg (.tp (.cons (.nm 5) (.cons (.nm 6) (.cons (.nm 7) .nil)))) (.var 4)) (.cons (.ite (.cmp .ne (.call 34 (.cons (.var 0) (.cons (.var 1) (.cons (.var 5) (.cons (.var 6) (.cons (.var 7) .nil)))))) (.var 2)) (.cons (.ret (.bl false)) .nil) .nil) (.cons (.ret (.not (.call 74 (.cons (.var 0) (.cons (.ix (.var 1) (.int 2)) (.cons (.var 4) (.cons (.var 3) .nil))))))) .nil))))
def f_is_against : Fd := ⟨["scheme", "look", "cell", "digit", "thing", "dividend", "d", "n"], ["scheme", "look", "cell", "digit", "thing"], b_f_is_against, none⟩
def b_f_suits_operands : SL := (.cons (.asg (.tp (.cons (.nm 4) (.cons (.nm 5) (.cons (.nm 6) .nil)))) (.var 2)) (.cons (.ret (.call 30 (.cons (.var 0) (.cons (.op .sub (.op .shl (.call 31 (.cons (.var 1) (.cons (.var 4) .nil))) (.ix (.var 0) (.int 0))) (.op .mul (.var 3) (.var 5))) (.cons (.var 5) .nil))))) .nil))
def f_suits_operands : Fd := ⟨["scheme", "kind", "operands", "digit", "dividend", "d", "_"], ["scheme", "kind", "operands", "digit"], b_f_suits_operands, none⟩
def b_f_unsuited : SL := (.cons (.set 4 (.blt .max2 (.cons (.op .add (.ix (.var 0) (.int 0)) (.ix (.var 1) (.int 0))) (.cons (.ix (.var 1) (.int 1)) .nil)))) (.cons (.while (.bl true) (.cons (.for (.nm 5) (.val (.tup (.cons (.int 1) (.cons (.neg (.int 1)) .nil)))) (.cons (.set 6 (.call 64 (.cons (.var 0) (.cons (.var 1) (.cons (.var 2) (.cons (.var 4) (.cons (.var 5) .nil))))))) (.cons (.ite (.call 73 (.cons (.var 0) (.cons (.var 1) (.cons (.var 2) (.cons (.var 3) (.cons (.var 6) .nil)))))) (.cons (.ret (.var 6)) .nil) .nil) .nil))) (.cons (.aug 4 .add (.int 1)) .nil))) .nil))
def f_unsuited : Fd := ⟨["scheme", "look", "cell", "digit", "n", "side", "operands"], ["scheme", "look", "cell", "digit"], b_f_unsuited, none⟩
def b_f_finished : SL := (.cons (.asg (.tp (.cons (.nm 3) (.cons (.nm 4) .nil))) (.call 41 (.cons (.var 0) (.cons (.var 1) (.cons (.var 2) .nil))))) (.cons (.ite (.cmp .lt (.blt .len (.cons (.var 3) .nil)) (.var 2)) (.cons (.ret .non) .nil) .nil) (.cons (.asg (.tp (.cons (.nm 5) (.cons (.nm 6) (.cons (.nm 7) .nil)))) (.var 0)) (.cons (.set 8 (.call 11 (.cons (.var 5) (.cons (.var 3) .nil)))) (.cons (.set 9 (.call 31 (.cons (.ix (.var 6) (.int 2)) (.cons (.var 4) .nil)))) (.cons (.set 10 (.ix (.var 1) (.int 1))) (.cons (.ite (.cmp .lt (.var 9) (.int 0)) (.cons (.ret (.tup (.cons (.op .sub (.var 8) (.int 1)) (.cons (.op .add (.var 9) (.var 10)) .nil)))) .nil) .nil) (.cons (.ite (.cmp .ge (.var 9) (.var 10)) (.cons (.ret (.tup (.cons (.op .add (.var 8) (.int 1)) (.cons (.op .sub (.var 9) (.var 10)) .nil)))) .nil) .nil) (.cons (.ret (.tup (.cons (.var 8) (.cons (.var 9) .nil)))) .nil)))))))))
def f_finished : Fd := ⟨["machine", "operands", "m", "string", "remainder", "scheme", "look", "_", "quotient", "w", "d"], ["machine", "operands", "m"], b_f_finished, none⟩
def b_f_judge_machine : SL := (.cons (.expr (.call 28 (.cons (.var 0) .nil))) (.cons (.set 1 (.call 82 (.cons (.var 0) .nil))) (.cons (.ite (.cmp .is (.var 1) .non) (.cons (.ret (.tup (.cons (.str "right") .nil))) .nil) .nil) (.cons (.set 2 (.call 83 (.cons (.var 0) (.cons (.var 1) .nil)))) (.cons (.ret (.tup (.cons (.str "errs") (.cons (.var 2) (.cons (.call 84 (.cons (.var 0) (.cons (.var 2) .nil))) .nil))))) .nil)))))
def f_judge_machine : Fd := ⟨["machine", "cell", "operands"], ["machine"], b_f_judge_machine, none⟩
def b_f_machine_holds : SL := (.cons (.expr (.call 28 (.cons (.var 0) .nil))) (.cons (.ite (.cmp .eq (.var 1) (.tup (.cons (.str "right") .nil))) (.cons (.ret (.cmp .is (.call 82 (.cons (.var 0) .nil)) .non)) .nil) .nil) (.cons (.ite (.or (.not (.call 3 (.cons (.var 1) .nil))) (.cmp .ne (.ix (.var 1) (.int 0)) (.str "errs"))) (.cons (.ret (.bl false)) .nil) .nil) (.cons (.asg (.tp (.cons (.nm 2) (.cons (.nm 3) (.cons (.nm 4) .nil)))) (.var 1)) (.cons (.asg (.tp (.cons (.nm 5) (.cons (.nm 6) (.cons (.nm 2) .nil)))) (.var 0)) (.cons (.ite (.or (.not (.call 29 (.cons (.var 5) (.cons (.ix (.var 6) (.int 2)) (.cons (.var 3) .nil))))) (.not (.call 1 (.cons (.var 4) .nil)))) (.cons (.ret (.bl false)) .nil) .nil) (.cons (.ret (.and (.cmp .le (.var 4) (.glb "MOST_STEPS" (.int 60))) (.call 85 (.cons (.var 0) (.cons (.var 3) (.cons (.var 4) .nil)))))) .nil)))))))
def f_machine_holds : Fd := ⟨["machine", "thing", "_", "operands", "m", "scheme", "look"], ["machine", "thing"], b_f_machine_holds, none⟩
def b_f_is_right : SL := (.cons (.expr (.call 28 (.cons (.var 0) .nil))) (.cons (.ret (.cmp .is (.call 82 (.cons (.var 0) .nil)) .non)) .nil))
def f_is_right : Fd := ⟨["machine"], ["machine"], b_f_is_right, none⟩
def b_f_is_fault : SL := (.cons (.asg (.tp (.cons (.nm 2) (.cons (.nm 3) (.cons (.nm 4) .nil)))) (.var 0)) (.cons (.set 5 (.call 35 (.cons (.var 0) (.cons (.var 1) .nil)))) (.cons (.ret (.or (.cmp .is (.var 5) .non) (.not (.call 53 (.cons (.var 2) (.cons (.var 3) (.cons (.var 1) (.cons (.var 5) .nil)))))))) .nil)))
def f_is_fault : Fd := ⟨["machine", "cell", "scheme", "look", "_", "digit"], ["machine", "cell"], b_f_is_fault, none⟩
def b_f_first_fault : SL := (.cons (.asg (.tp (.cons (.nm 1) (.cons (.nm 2) (.cons (.nm 3) .nil)))) (.var 0)) (.cons (.for (.nm 4) (.val (.call 77 (.cons (.var 1) (.cons (.var 2) .nil)))) (.cons (.ite (.call 81 (.cons (.var 0) (.cons (.var 4) .nil))) (.cons (.ret (.var 4)) .nil) .nil) .nil)) (.cons (.ret .non) .nil)))
def f_first_fault : Fd := ⟨["machine", "scheme", "look", "_", "cell"], ["machine"], b_f_first_fault, none⟩
def b_f_operands_to_err : SL := (.cons (.asg (.tp (.cons (.nm 2) (.cons (.nm 3) (.cons (.nm 4) .nil)))) (.var 0)) (.cons (.set 5 (.call 35 (.cons (.var 0) (.cons (.var 1) .nil)))) (.cons (.ite (.cmp .is (.var 5) .non) (.cons (.set 6 (.ix (.var 2) (.int 1))) (.cons (.set 5 (.ite (.call 53 (.cons (.var 2) (.cons (.var 3) (.cons (.var 1) (.cons (.var 6) .nil))))) (.neg (.var 6)) (.var 6))) .nil)) .nil) (.cons (.ret (.call 75 (.cons (.var 2) (.cons (.var 3) (.cons (.var 1) (.cons (.var 5) .nil)))))) .nil))))
def f_operands_to_err : Fd := ⟨["machine", "cell", "scheme", "look", "_", "digit", "a"], ["machine", "cell"], b_f_operands_to_err, none⟩
def b_f_steps_to_err : SL := (.cons (.set 2 (.int 1)) (.cons (.while (.not (.call 85 (.cons (.var 0) (.cons (.var 1) (.cons (.var 2) .nil))))) (.cons (.aug 2 .add (.int 1)) .nil)) (.cons (.ret (.var 2)) .nil)))
def f_steps_to_err : Fd := ⟨["machine", "operands", "m"], ["machine", "operands"], b_f_steps_to_err, none⟩
def b_f_errs : SL := (.cons (.set 3 (.call 76 (.cons (.var 0) (.cons (.var 1) (.cons (.var 2) .nil))))) (.cons (.ret (.or (.cmp .is (.var 3) .non) (.not (.chain .le .lt (.int 0) (.ix (.var 3) (.int 1)) (.ix (.var 1) (.int 1)))))) .nil))
def f_errs : Fd := ⟨["machine", "operands", "m", "end"], ["machine", "operands", "m"], b_f_errs, none⟩
def b_f_choices : SL := (.cons (.expr (.call 87 (.cons (.var 0) (.cons (.var 1) .nil)))) (.cons (.set 2 (.lst .nil)) (.cons (.for (.nm 3) (.r1 (.op .shl (.int 1) (.ix (.var 1) (.int 1)))) (.cons (.asg (.tp (.cons (.nm 4) (.cons (.nm 5) .nil))) (.call 49 (.cons (.var 0) (.cons (.var 1) (.cons (.var 3) .nil))))) (.cons (.set 6 (.blt .tuple (.cons (.lc (.r2 (.var 4) (.op .add (.var 5) (.int 1))) (.nm 7) .none (.call 52 (.cons (.var 0) (.cons (.var 1) (.cons (.tup (.cons (.var 3) (.cons (.var 7) .nil))) .nil)))) [7]) .nil))) (.cons (.expr (.mt .append (.var 2) (.cons (.tup (.cons (.var 4) (.cons (.var 6) .nil))) .nil))) .nil)))) (.cons (.ret (.blt .tuple (.cons (.var 2) .nil))) .nil))))
def f_choices : Fd := ⟨["scheme", "look", "rows", "i", "least", "most", "lots", "y"], ["scheme", "look"], b_f_choices, none⟩
def b_f_need_scheme_and_look : SL := (.cons (.expr (.call 5 (.cons (.var 0) .nil))) (.cons (.expr (.call 24 (.cons (.var 1) .nil))) .nil))
def f_need_scheme_and_look : Fd := ⟨["scheme", "look"], ["scheme", "look"], b_f_need_scheme_and_look, none⟩
def b_f_make_machine : SL := (.cons (.set 2 (.call 86 (.cons (.var 0) (.cons (.var 1) .nil)))) (.cons (.ite (.any (.val (.var 2)) (.tp (.cons (.nm 3) (.cons (.nm 4) .nil))) (.cmp .isin (.tup .nil) (.var 4)) [3, 4]) (.cons (.ret .non) .nil) .nil) (.cons (.ret (.tup (.cons (.var 0) (.cons (.var 1) (.cons (.blt .tuple (.cons (.lc (.val (.var 2)) (.tp (.cons (.nm 6) (.cons (.nm 4) .nil))) .none (.tup (.cons (.var 6) (.cons (.blt .tuple (.cons (.lc (.val (.var 4)) (.nm 5) .none (.ix (.var 5) (.int 0)) [5]) .nil)) .nil))) [6, 4]) .nil)) .nil))))) .nil)))
def f_make_machine : Fd := ⟨["scheme", "look", "rows", "_", "lots", "lot", "lowest"], ["scheme", "look"], b_f_make_machine, (some "<genexpr>")⟩
def b_f_judge_look : SL := (.cons (.set 2 (.call 88 (.cons (.var 0) (.cons (.var 1) .nil)))) (.cons (.ite (.cmp .isNot (.var 2) .non) (.cons (.ret (.tup (.cons (.str "machine") (.cons (.var 2) .nil)))) .nil) .nil) (.cons (.set 3 (.call 92 (.cons (.var 0) (.cons (.var 1) .nil)))) (.cons (.set 4 (.blt .tuple (.cons (.lc (.val (.call 91 (.cons (.var 0) .nil))) (.nm 5) .none (.call 75 (.cons (.var 0) (.cons (.var 1) (.cons (.var 3) (.cons (.var 5) .nil))))) [5]) .nil))) (.cons (.ret (.tup (.cons (.str "cell") (.cons (.var 3) (.cons (.var 4) .nil))))) .nil)))))
def f_judge_look : Fd := ⟨["scheme", "look", "machine", "cell", "lot", "digit"], ["scheme", "look"], b_f_judge_look, none⟩
def b_f_look_holds : SL := (.cons (.expr (.call 87 (.cons (.var 0) (.cons (.var 1) .nil)))) (.cons (.ite (.and (.call 2 (.cons (.var 2) .nil)) (.cmp .eq (.ix (.var 2) (.int 0)) (.str "machine"))) (.cons (.set 3 (.ix (.var 2) (.int 1))) (.cons (.ret (.and (.call 27 (.cons (.var 3) .nil)) (.and (.cmp .eq (.sl (.var 3) .none (.some (.int 2))) (.tup (.cons (.var 0) (.cons (.var 1) .nil)))) (.call 80 (.cons (.var 3) .nil))))) .nil)) .nil) (.cons (.ite (.and (.call 3 (.cons (.var 2) .nil)) (.cmp .eq (.ix (.var 2) (.int 0)) (.str "cell"))) (.cons (.ret (.call 93 (.cons (.var 0) (.cons (.var 1) (.cons (.ix (.var 2) (.int 1)) (.cons (.ix (.var 2) (.int 2)) .nil)))))) .nil) .nil) (.cons (.ret (.bl false)) .nil))))
def f_look_holds : Fd := ⟨["scheme", "look", "thing", "machine"], ["scheme", "look", "thing"], b_f_look_holds, none⟩
def b_f_hopeless : SL := (.cons (.for (.nm 2) (.val (.call 77 (.cons (.var 0) (.cons (.var 1) .nil)))) (.cons (.ite (.not (.call 52 (.cons (.var 0) (.cons (.var 1) (.cons (.var 2) .nil))))) (.cons (.ret (.var 2)) .nil) .nil) .nil)) (.cons (.ret .non) .nil))
def f_hopeless : Fd := ⟨["scheme", "look", "cell"], ["scheme", "look"], b_f_hopeless, none⟩
def b_f_many_machines : SL := (.cons (.set 2 (.int 1)) (.cons (.for (.tp (.cons (.nm 3) (.cons (.nm 4) .nil))) (.val (.call 86 (.cons (.var 0) (.cons (.var 1) .nil)))) (.cons (.for (.nm 5) (.val (.var 4)) (.cons (.aug 2 .mul (.blt .len (.cons (.var 5) .nil))) .nil)) .nil)) (.cons (.ret (.var 2)) .nil)))
def f_many_machines : Fd := ⟨["scheme", "look", "many", "_", "lots", "lot"], ["scheme", "look"], b_f_many_machines, none⟩
def b_f_least_t : SL := (.cons (.for (.nm 4) (.r1 (.var 3)) (.cons (.ite (.cmp .is (.call 92 (.cons (.var 0) (.cons (.tup (.cons (.var 4) (.cons (.var 1) (.cons (.var 2) .nil)))) .nil))) .non) (.cons (.ret (.var 4)) .nil) .nil) .nil)) (.cons (.ret .non) .nil))
def f_least_t : Fd := ⟨["scheme", "s", "kind", "below", "t"], ["scheme", "s", "kind", "below"], b_f_least_t, none⟩
def b_f_is_fraction : SL := (.cons (.ite (.not (.call 2 (.cons (.var 0) .nil))) (.cons (.ret (.bl false)) .nil) .nil) (.cons (.asg (.tp (.cons (.nm 1) (.cons (.nm 2) .nil))) (.var 0)) (.cons (.ite (.or (.not (.call 0 (.cons (.var 1) .nil))) (.not (.call 0 (.cons (.var 2) .nil)))) (.cons (.ret (.bl false)) .nil) .nil) (.cons (.ret (.and (.cmp .gt (.var 2) (.int 0)) (.cmp .eq (.blt .gcd (.cons (.var 1) (.cons (.var 2) .nil))) (.int 1)))) .nil))))
def f_is_fraction : Fd := ⟨["thing", "top", "bottom"], ["thing"], b_f_is_fraction, none⟩
def b_f_need_mode : SL := (.cons (.ite (.cmp .notin (.var 0) (.glb "MODES" (.tup [(.str "down"), (.str "up"), (.str "zero"), (.str "even")]))) (.cons (.raise 6 (.var 0)) .nil) .nil) .nil)
def f_need_mode : Fd := ⟨["mode"], ["mode"], b_f_need_mode, none⟩
def b_f_rounded : SL := (.cons (.ite (.not (.call 97 (.cons (.var 0) .nil))) (.cons (.raise 5 (.var 0)) .nil) .nil) (.cons (.expr (.call 98 (.cons (.var 1) .nil))) (.cons (.asg (.tp (.cons (.nm 2) (.cons (.nm 3) .nil))) (.var 0)) (.cons (.ret (.call 100 (.cons (.var 2) (.cons (.var 3) (.cons (.var 1) .nil))))) .nil))))
def f_rounded : Fd := ⟨["fraction", "mode", "top", "bottom"], ["fraction", "mode"], b_f_rounded, none⟩
def b_f_nearest : SL := (.cons (.set 3 (.op .fdiv (.var 0) (.var 1))) (.cons (.ret (.call 101 (.cons (.var 3) (.cons (.op .sub (.var 0) (.op .mul (.var 3) (.var 1))) (.cons (.var 1) (.cons (.var 2) .nil)))))) .nil))
def f_nearest : Fd := ⟨["top", "bottom", "mode", "quotient"], ["top", "bottom", "mode"], b_f_nearest, none⟩
def b_f_chosen : SL := (.cons (.ite (.or (.cmp .eq (.var 1) (.int 0)) (.cmp .eq (.var 3) (.str "down"))) (.cons (.ret (.var 0)) .nil) .nil) (.cons (.ite (.cmp .eq (.var 3) (.str "up")) (.cons (.ret (.op .add (.var 0) (.int 1))) .nil) .nil) (.cons (.ite (.cmp .eq (.var 3) (.str "zero")) (.cons (.ret (.ite (.cmp .lt (.var 0) (.int 0)) (.op .add (.var 0) (.int 1)) (.var 0))) .nil) .nil) (.cons (.ite (.or (.cmp .gt (.op .mul (.int 2) (.var 1)) (.var 2)) (.and (.cmp .eq (.op .mul (.int 2) (.var 1)) (.var 2)) (.cmp .eq (.op .mod (.var 0) (.int 2)) (.int 1)))) (.cons (.ret (.op .add (.var 0) (.int 1))) .nil) .nil) (.cons (.ret (.var 0)) .nil)))))
def f_chosen : Fd := ⟨["quotient", "w", "d", "mode"], ["quotient", "w", "d", "mode"], b_f_chosen, none⟩
def b_f_exact : SL := (.cons (.expr (.call 5 (.cons (.var 0) .nil))) (.cons (.expr (.call 26 (.cons (.var 1) .nil))) (.cons (.expr (.call 69 (.cons (.var 0) (.cons (.var 1) (.cons (.var 2) (.cons (.var 3) .nil)))))) (.cons (.expr (.call 98 (.cons (.var 4) .nil))) (.cons (.asg (.tp (.cons (.nm 5) (.cons (.nm 6) (.cons (.nm 7) .nil)))) (.var 2)) (.cons (.ret (.call 100 (.cons (.op .shl (.call 31 (.cons (.var 1) (.cons (.var 5) .nil))) (.op .mul (.ix (.var 0) (.int 0)) (.var 3))) (.cons (.var 6) (.cons (.var 4) .nil))))) .nil))))))
def f_exact : Fd := ⟨["scheme", "kind", "operands", "m", "mode", "dividend", "d", "_"], ["scheme", "kind", "operands", "m", "mode"], b_f_exact, none⟩
def b_f_divide : SL := (.cons (.expr (.call 68 (.cons (.var 0) (.cons (.var 1) (.cons (.var 2) .nil))))) (.cons (.expr (.call 98 (.cons (.var 3) .nil))) (.cons (.set 4 (.call 76 (.cons (.var 0) (.cons (.var 1) (.cons (.var 2) .nil))))) (.cons (.ite (.cmp .is (.var 4) .non) (.cons (.ret .non) .nil) .nil) (.cons (.asg (.tp (.cons (.nm 5) (.cons (.nm 6) .nil))) (.var 4)) (.cons (.ret (.call 101 (.cons (.var 5) (.cons (.var 6) (.cons (.ix (.var 1) (.int 1)) (.cons (.var 3) .nil)))))) .nil))))))
def f_divide : Fd := ⟨["machine", "operands", "m", "mode", "end", "quotient", "w"], ["machine", "operands", "m", "mode"], b_f_divide, none⟩
def b_f_is_binary : SL := (.cons (.ite (.not (.call 2 (.cons (.var 0) .nil))) (.cons (.ret (.bl false)) .nil) .nil) (.cons (.asg (.tp (.cons (.nm 1) (.cons (.nm 2) .nil))) (.var 0)) (.cons (.ite (.or (.not (.call 0 (.cons (.var 1) .nil))) (.not (.call 0 (.cons (.var 2) .nil)))) (.cons (.ret (.bl false)) .nil) .nil) (.cons (.ret (.or (.cmp .eq (.op .mod (.var 1) (.int 2)) (.int 1)) (.and (.cmp .eq (.var 1) (.int 0)) (.cmp .eq (.var 2) (.int 0))))) .nil))))
def f_is_binary : Fd := ⟨["thing", "m", "e"], ["thing"], b_f_is_binary, none⟩
def b_f_to_bits : SL := (.cons (.ite (.not (.call 97 (.cons (.var 0) .nil))) (.cons (.raise 5 (.var 0)) .nil) .nil) (.cons (.ite (.not (.call 70 (.cons (.var 1) .nil))) (.cons (.raise 5 (.var 1)) .nil) .nil) (.cons (.expr (.call 98 (.cons (.var 2) .nil))) (.cons (.asg (.tp (.cons (.nm 3) (.cons (.nm 4) .nil))) (.var 0)) (.cons (.ret (.call 106 (.cons (.var 3) (.cons (.var 4) (.cons (.int 0) (.cons (.var 1) (.cons (.var 2) .nil))))))) .nil)))))
def f_to_bits : Fd := ⟨["fraction", "p", "mode", "top", "bottom"], ["fraction", "p", "mode"], b_f_to_bits, none⟩
def b_f_binary : SL := (.cons (.ite (.cmp .eq (.var 0) (.int 0)) (.cons (.ret (.tup (.cons (.int 0) (.cons (.int 0) .nil)))) .nil) .nil) (.cons (.set 5 (.call 107 (.cons (.blt .abs (.cons (.var 0) .nil)) (.cons (.var 1) (.cons (.var 3) .nil))))) (.cons (.set 6 (.call 100 (.cons (.op .shl (.var 0) (.blt .max2 (.cons (.int 0) (.cons (.neg (.var 5)) .nil)))) (.cons (.op .shl (.var 1) (.blt .max2 (.cons (.int 0) (.cons (.var 5) .nil)))) (.cons (.var 4) .nil))))) (.cons (.aug 2 .add (.var 5)) (.cons (.while (.cmp .eq (.op .mod (.var 6) (.int 2)) (.int 0)) (.cons (.aug 6 .fdiv (.int 2)) (.cons (.aug 2 .add (.int 1)) .nil))) (.cons (.ret (.tup (.cons (.var 6) (.cons (.var 2) .nil)))) .nil))))))
def f_binary : Fd := ⟨["top", "bottom", "e", "p", "mode", "place", "m"], ["top", "bottom", "e", "p", "mode"], b_f_binary, none⟩
def b_f_last_place : SL := (.cons (.set 3 (.op .sub (.bitl (.var 0)) (.bitl (.var 1)))) (.cons (.ite (.cmp .ge (.op .shl (.var 0) (.blt .max2 (.cons (.int 0) (.cons (.neg (.var 3)) .nil)))) (.op .shl (.var 1) (.blt .max2 (.cons (.int 0) (.cons (.var 3) .nil))))) (.cons (.aug 3 .add (.int 1)) .nil) .nil) (.cons (.ret (.op .sub (.var 3) (.var 2))) .nil)))
def f_last_place : Fd := ⟨["top", "bottom", "p", "places"], ["top", "bottom", "p"], b_f_last_place, none⟩
def b_f_is_machine_of : SL := (.cons (.ret (.and (.call 27 (.cons (.var 1) .nil)) (.cmp .eq (.ix (.ix (.var 1) (.int 1)) (.int 2)) (.var 0)))) .nil)
def f_is_machine_of : Fd := ⟨["kind", "thing"], ["kind", "thing"], b_f_is_machine_of, none⟩
def b_f_quotient : SL := (.cons (.ite (.or (.not (.call 108 (.cons (.str "one") (.cons (.var 0) .nil)))) (.not (.call 80 (.cons (.var 0) .nil)))) (.cons (.raise 3 (.var 0)) .nil) .nil) (.cons (.ite (.not (.call 104 (.cons (.var 1) .nil))) (.cons (.raise 5 (.var 1)) .nil) .nil) (.cons (.ite (.or (.not (.call 104 (.cons (.var 2) .nil))) (.cmp .eq (.var 2) (.tup (.cons (.int 0) (.cons (.int 0) .nil))))) (.cons (.raise 5 (.var 2)) .nil) .nil) (.cons (.ite (.not (.call 70 (.cons (.var 3) .nil))) (.cons (.raise 5 (.var 3)) .nil) .nil) (.cons (.expr (.call 98 (.cons (.var 4) .nil))) (.cons (.asg (.tp (.cons (.nm 5) (.cons (.nm 6) .nil))) (.call 110 (.cons (.var 0) (.cons (.var 1) (.cons (.var 2) (.cons (.var 3) .nil)))))) (.cons (.set 7 (.cmp .ne (.cmp .lt (.ix (.var 1) (.int 0)) (.int 0)) (.cmp .lt (.ix (.var 2) (.int 0)) (.int 0)))) (.cons (.ret (.call 106 (.cons (.ite (.var 7) (.neg (.var 5)) (.var 5)) (.cons (.int 1) (.cons (.var 6) (.cons (.var 3) (.cons (.var 4) .nil))))))) .nil))))))))
def f_quotient : Fd := ⟨["machine", "one", "other", "p", "mode", "whole", "e", "negative"], ["machine", "one", "other", "p", "mode"], b_f_quotient, none⟩
def b_f_sizes_divided : SL := (.cons (.par2 4 5 (.blt .abs (.cons (.ix (.var 1) (.int 0)) .nil)) (.blt .abs (.cons (.ix (.var 2) (.int 0)) .nil))) (.cons (.set 6 (.ix (.ix (.var 0) (.int 0)) (.int 0))) (.cons (.set 7 (.blt .max2 (.cons (.op .add (.bitl (.var 4)) (.int 1)) (.cons (.op .sub (.bitl (.var 5)) (.int 1)) .nil)))) (.cons (.par2 8 9 (.op .sub (.op .sub (.var 7) (.int 1)) (.bitl (.var 4))) (.op .sub (.op .add (.var 7) (.int 1)) (.bitl (.var 5)))) (.cons (.set 10 (.neg (.op .fdiv (.neg (.op .add (.var 3) (.int 3))) (.var 6)))) (.cons (.asg (.tp (.cons (.nm 11) (.cons (.nm 12) .nil))) (.call 76 (.cons (.var 0) (.cons (.tup (.cons (.op .shl (.var 4) (.var 8)) (.cons (.op .shl (.var 5) (.var 9)) (.cons (.var 7) .nil)))) (.cons (.var 10) .nil))))) (.cons (.set 13 (.op .add (.op .mul (.int 2) (.var 11)) (.ite (.cmp .gt (.var 12) (.int 0)) (.int 1) (.int 0)))) (.cons (.ret (.tup (.cons (.var 13) (.cons (.op .sub (.op .sub (.op .sub (.op .add (.op .sub (.ix (.var 1) (.int 1)) (.ix (.var 2) (.int 1))) (.var 9)) (.var 8)) (.op .mul (.var 6) (.var 10))) (.int 1)) .nil)))) .nil))))))))
def f_sizes_divided : Fd := ⟨["machine", "one", "other", "p", "x", "d", "k", "n", "up", "down", "steps", "found", "w", "whole"], ["machine", "one", "other", "p"], b_f_sizes_divided, none⟩
def b_f_output : SL := (.cons (.expr (.call 115 (.cons (.var 0) (.cons (.var 1) .nil)))) (.cons (.ite (.not (.call 71 (.cons (.ix (.var 0) (.int 1)) (.cons (.var 2) .nil)))) (.cons (.raise 7 (.var 2)) .nil) .nil) (.cons (.ret (.call 120 (.cons (.var 0) (.cons (.var 1) (.cons (.var 2) .nil))))) .nil)))
def f_output : Fd := ⟨["machine", "logic", "cell"], ["machine", "logic", "cell"], b_f_output, none⟩
def b_f_logic_holds : SL := (.cons (.expr (.call 115 (.cons (.var 0) (.cons (.var 1) .nil)))) (.cons (.ite (.cmp .eq (.var 2) (.tup (.cons (.str "fits") .nil))) (.cons (.ret (.cmp .eq (.call 113 (.cons (.var 0) (.cons (.var 1) .nil))) (.tup (.cons (.str "fits") .nil)))) .nil) .nil) (.cons (.ite (.or (.not (.call 3 (.cons (.var 2) .nil))) (.or (.cmp .ne (.ix (.var 2) (.int 0)) (.str "cell")) (.not (.call 71 (.cons (.ix (.var 0) (.int 1)) (.cons (.sl (.var 2) (.some (.int 1)) .none) .nil)))))) (.cons (.ret (.bl false)) .nil) .nil) (.cons (.set 3 (.sl (.var 2) (.some (.int 1)) .none)) (.cons (.set 4 (.call 35 (.cons (.var 0) (.cons (.var 3) .nil)))) (.cons (.ret (.and (.cmp .isNot (.var 4) .non) (.not (.call 119 (.cons (.var 0) (.cons (.var 1) (.cons (.var 3) (.cons (.var 4) .nil)))))))) .nil))))))
def f_logic_holds : Fd := ⟨["machine", "logic", "thing", "cell", "digit"], ["machine", "logic", "thing"], b_f_logic_holds, none⟩
def b_f_need_logic : SL := (.cons (.ite (.not (.call 111 (.cons (.var 0) (.cons (.var 1) .nil)))) (.cons (.raise 8 (.var 1)) .nil) .nil) .nil)
def f_need_logic : Fd := ⟨["machine", "logic"], ["machine", "logic"], b_f_need_logic, none⟩
def b_f_bits_for : SL := (.cons (.ret (.op .add (.bitl (.ite (.cmp .ge (.var 0) (.int 0)) (.var 0) (.op .sub (.neg (.var 0)) (.int 1)))) (.int 1))) .nil)
def f_bits_for : Fd := ⟨["y"], ["y"], b_f_bits_for, none⟩
def b_f_fits_at : SL := (.cons (.ret (.and (.cmp .le (.call 118 (.cons (.ix (.var 2) (.int 1)) .nil)) (.ix (.var 1) (.int 0))) (.cmp .eq (.call 120 (.cons (.var 0) (.cons (.var 1) (.cons (.var 2) .nil)))) (.var 3)))) .nil)
def f_fits_at : Fd := ⟨["machine", "logic", "cell", "digit"], ["machine", "logic", "cell", "digit"], b_f_fits_at, none⟩
def b_f_word : SL := (.cons (.asg (.tp (.cons (.nm 3) (.cons (.nm 4) .nil))) (.var 2)) (.cons (.ret (.op .add (.call 123 (.cons (.var 4) (.cons (.var 1) .nil))) (.call 123 (.cons (.var 3) (.cons (.ix (.var 0) (.int 1)) .nil))))) .nil))
def f_word : Fd := ⟨["look", "b", "cell", "i", "y"], ["look", "b", "cell"], b_f_word, none⟩
def b_f_bad_operands : SL := (.cons (.expr (.call 128 (.cons (.var 0) (.cons (.var 1) .nil)))) (.cons (.ret (.blt .tuple (.cons (.call 130 (.cons (.var 0) (.cons (.call 129 (.cons (.var 0) .nil)) (.cons (.var 1) .nil)))) .nil))) .nil))
def f_bad_operands : Fd := ⟨["machine", "n"], ["machine", "n"], b_f_bad_operands, none⟩
def b_f_share : SL := (.cons (.expr (.call 128 (.cons (.var 0) (.cons (.var 1) .nil)))) (.cons (.set 2 (.blt .sum (.cons (.lc (.r2 (.op .shl (.int 1) (.var 1)) (.op .shl (.int 2) (.var 1))) (.nm 3) .none (.op .add (.op .mul (.int 2) (.call 138 (.cons (.ix (.var 0) (.int 0)) (.cons (.var 3) .nil)))) (.int 1)) [3]) .nil))) (.cons (.ret (.call 66 (.cons (.blt .len (.cons (.call 130 (.cons (.var 0) (.cons (.call 129 (.cons (.var 0) .nil)) (.cons (.var 1) .nil)))) .nil)) (.cons (.var 2) .nil)))) .nil)))
def f_share : Fd := ⟨["machine", "n", "every", "d"], ["machine", "n"], b_f_share, none⟩
def b_f_need_machine_of_one : SL := (.cons (.ite (.not (.call 108 (.cons (.str "one") (.cons (.var 0) .nil)))) (.cons (.raise 3 (.var 0)) .nil) .nil) .nil)
def f_need_machine_of_one : Fd := ⟨["machine"], ["machine"], b_f_need_machine_of_one, none⟩
def b_f_need_machine_and_width : SL := (.cons (.expr (.call 127 (.cons (.var 0) .nil))) (.cons (.ite (.not (.call 70 (.cons (.var 1) .nil))) (.cons (.raise 5 (.var 1)) .nil) .nil) .nil))
def f_need_machine_and_width : Fd := ⟨["machine", "n"], ["machine", "n"], b_f_need_machine_and_width, none⟩
def b_f_faults : SL := (.cons (.asg (.tp (.cons (.nm 1) (.cons (.nm 2) (.cons (.nm 3) .nil)))) (.var 0)) (.cons (.set 4 (.lst .nil)) (.cons (.for (.nm 5) (.r1 (.blt .len (.cons (.var 3) .nil))) (.cons (.asg (.tp (.cons (.nm 6) (.cons (.nm 7) .nil))) (.call 49 (.cons (.var 1) (.cons (.var 2) (.cons (.var 5) .nil))))) (.cons (.expr (.mt .append (.var 4) (.cons (.lc (.r2 (.var 6) (.op .add (.var 7) (.int 1))) (.nm 8) (.some (.call 81 (.cons (.var 0) (.cons (.tup (.cons (.var 5) (.cons (.var 8) .nil))) .nil)))) (.var 8) [8]) .nil))) .nil))) (.cons (.ret (.var 4)) .nil))))
def f_faults : Fd := ⟨["machine", "scheme", "look", "table", "rows", "i", "least", "most", "y"], ["machine"], b_f_faults, none⟩
def b_f_bad : SL := (.cons (.asg (.tp (.cons (.nm 3) (.cons (.nm 4) (.cons (.nm 5) .nil)))) (.var 0)) (.cons (.set 6 (.lst .nil)) (.cons (.for (.nm 7) (.r2 (.op .shl (.int 1) (.var 2)) (.op .shl (.int 2) (.var 2))) (.cons (.asg (.tp (.cons (.nm 8) (.cons (.nm 5) .nil))) (.call 34 (.cons (.var 3) (.cons (.var 4) (.cons (.int 0) (.cons (.var 7) (.cons (.var 2) .nil))))))) (.cons (.for (.nm 9) (.val (.ix (.var 1) (.var 8))) (.cons (.set 10 (.call 35 (.cons (.var 0) (.cons (.tup (.cons (.var 8) (.cons (.var 9) .nil))) .nil)))) (.cons (.for (.nm 11) (.val (.call 131 (.cons (.var 3) (.cons (.var 4) (.cons (.var 9) (.cons (.var 7) (.cons (.var 2) .nil))))))) (.cons (.ite (.or (.cmp .is (.var 10) .non) (.not (.call 74 (.cons (.var 3) (.cons (.str "one") (.cons (.tup (.cons (.var 11) (.cons (.var 7) (.cons (.var 2) .nil)))) (.cons (.var 10) .nil))))))) (.cons (.expr (.mt .append (.var 6) (.cons (.tup (.cons (.var 7) (.cons (.var 11) .nil))) .nil))) .nil) .nil) .nil)) .nil))) .nil))) (.cons (.ret (.var 6)) .nil))))
def f_bad : Fd := ⟨["machine", "faults", "n", "scheme", "look", "_", "found", "d", "i", "y", "digit", "x"], ["machine", "faults", "n"], b_f_bad, none⟩
def b_f_most2 : SL := (.cons (.ret (.op .fdiv (.op .mul (.ix (.var 0) (.int 1)) (.var 1)) (.op .sub (.call 6 (.cons (.var 0) .nil)) (.int 1)))) .nil)
def f_most2 : Fd := ⟨["scheme", "d"], ["scheme", "d"], b_f_most2, none⟩
def progL : List (Nat × Fd) := [(0, f_is_integer), (1, f_is_natural), (2, f_is_pair), (3, f_is_triple), (4, f_is_scheme), (5, f_need_scheme), (6, f_radix), (7, f_is_digit), (8, f_is_string), (9, f_need_string), (10, f_bound), (11, f_value), (12, f_greatest), (15, f_need_length_and_number), (16, f_most), (17, f_continuations), (18, f_registers), (19, f_appended), (20, f_is_pair_of_ordinary), (21, f_is_ordinary), (22, f_after), (23, f_is_look), (24, f_need_look), (25, f_is_kind), (26, f_need_kind), (27, f_is_machine), (28, f_need_machine), (29, f_is_operands), (30, f_is_within), (31, f_whole), (32, f_estimate), (33, f_selected), (34, f_cell_of), (35, f_digit_at), (36, f_need_sight), (38, f_is_remainder), (39, f_is_divisor), (40, f_reduced), (41, f_run), (42, f_remainders), (43, f_is_in_bounds), (45, f_followed), (46, f_stepped), (47, f_without_carries), (48, f_is_reached), (49, f_reached), (50, f_judge_digit), (51, f_digit_holds), (52, f_suitable), (53, f_suits_cell), (54, f_need_cell), (55, f_need_cell_and_digit), (57, f_spread), (58, f_ends), (59, f_some_fall_into), (60, f_is_left_behind), (61, f_edge), (64, f_outermost), (65, f_divided), (66, f_as_fraction), (67, f_is_row), (68, f_need_run), (69, f_need_start), (70, f_is_count), (71, f_is_cell), (72, f_is_part), (73, f_is_against), (74, f_suits_operands), (75, f_unsuited), (76, f_finished), (78, f_judge_machine), (79, f_machine_holds), (80, f_is_right), (81, f_is_fault), (82, f_first_fault), (83, f_operands_to_err), (84, f_steps_to_err), (85, f_errs), (86, f_choices), (87, f_need_scheme_and_look), (88, f_make_machine), (89, f_judge_look), (90, f_look_holds), (92, f_hopeless), (94, f_many_machines), (96, f_least_t), (97, f_is_fraction), (98, f_need_mode), (99, f_rounded), (100, f_nearest), (101, f_chosen), (102, f_exact), (103, f_divide), (104, f_is_binary), (105, f_to_bits), (106, f_binary), (107, f_last_place), (108, f_is_machine_of), (109, f_quotient), (110, f_sizes_divided), (112, f_output), (114, f_logic_holds), (115, f_need_logic), (118, f_bits_for), (119, f_fits_at), (122, f_word), (125, f_bad_operands), (126, f_share), (127, f_need_machine_of_one), (128, f_need_machine_and_width), (129, f_faults), (130, f_bad), (138, f_most2)]
def Pg (T : PT) : Prop := ∀ i F, progL.lookup i = some F → T.fd.lookup i = some F
theorem Pg.of {T : PT} {l : List (Nat × Fd)} (h : T.fd = progL ++ l) : Pg T := fun i F e => by
  rw [h, List.lookup_append, e]
  rfl
end Q
end

section
set_option Elab.async false
set_option linter.all false
set_option maxRecDepth 100000
set_option maxHeartbeats 1000000
set_option autoImplicit false
/-! Evaluating by rewriting: one rule a form, the continuation left alone. -/
namespace Q
open PySem L2
/-- the store where the evaluation stands: the rules ask for it, so nothing is done under a continuation -/
def lv (st : Sto) : Sto := st
/-- a choice whose sides wait for the store -/
def ch {α : Type} (k : Bool) (s : Sto) (a b : Sto → α) : α := if k = true then a s else b s
theorem ch_t {α : Type} {s : Sto} {a b : Sto → α} : ch true s a b = a s := rfl
theorem ch_f {α : Type} {s : Sto} {a b : Sto → α} : ch false s a b = b s := rfl
theorem ch_d {α : Type} {p : Prop} [Decidable p] {s : Sto} {a b : Sto → α} (h : p) : ch (decide p) s a b = a s := by rw [decide_eq_true h]; rfl
theorem ch_n {α : Type} {p : Prop} [Decidable p] {s : Sto} {a b : Sto → α} (h : ¬ p) : ch (decide p) s a b = b s := by rw [decide_eq_false h]; rfl
section
variable {α β : Type} {C : Ctx} {env : Ev} {st : Sto}
theorem rb_ok {a : α} {f : α → Sto → Res β} : (Res.ok a (lv st)).bind f = f a (lv st) := rfl
theorem rb_exc {c : Nat} {d : D} {f : α → Sto → Res β} : (Res.exc c d st : Res α).bind f = .exc c d (lv st) := rfl
theorem rt_ok {a : α} {f : α → Sto → SR} : (Res.ok a (lv st)).then env f = f a (lv st) := rfl
theorem rt_exc {c : Nat} {d : D} {f : α → Sto → SR} : (Res.exc c d st : Res α).then env f = .exc c d env (lv st) := rfl
theorem sb_nx {f : Ev → Sto → SR} : (SR.nx env (lv st)).bind f = f env (lv st) := rfl
theorem sb_rt {d : D} {f : Ev → Sto → SR} : (SR.rt d (lv st)).bind f = .rt d (lv st) := rfl
theorem sb_bk {f : Ev → Sto → SR} : (SR.bk env (lv st)).bind f = .bk env (lv st) := rfl
theorem sb_ct {f : Ev → Sto → SR} : (SR.ct env (lv st)).bind f = .ct env (lv st) := rfl
theorem sb_exc {c : Nat} {d : D} {f : Ev → Sto → SR} : (SR.exc c d env (lv st)).bind f = .exc c d env (lv st) := rfl
theorem os_nx : ofSR (.nx env (lv st)) = .ok .non (lv st) := rfl
theorem os_rt {d : D} : ofSR (.rt d (lv st)) = .ok d (lv st) := rfl
theorem os_exc {c : Nat} {d : D} : ofSR (.exc c d env (lv st)) = .exc c d (lv st) := rfl
theorem oo_some {d : D} {s : Sto} : ofO (some (d, s)) = .ok d s := rfl
theorem ob_some {b : Bool} : ofB (some b) (lv st) = .ok b (lv st) := rfl
theorem bl_ok {b : Bool} : blB (.bl b) (lv st) = .ok b (lv st) := rfl
theorem oe_some : ofEv (some env) (lv st) = .nx env (lv st) := rfl
theorem ot_some {s : Sto} : ofSt (some s) env = .nx env s := rfl
/-- what is no exception in hand -/
theorem nx_int {i : Int} : nx (.int i) = true := rfl
theorem nx_tup {ds : List D} : nx (.tup ds) = true := rfl
theorem nx_loc {i : Nat} : nx (.loc i) = true := rfl
theorem nx_str {x : Str} : nx (.str x) = true := rfl
theorem nx_bl {b : Bool} : nx (.bl b) = true := rfl
theorem nx_non : nx .non = true := rfl
theorem nx_fz {ds : List D} : nx (.fz ds) = true := rfl
theorem vg_z {d : D} {e : Ev} (h : nx d = true) : vGet 0 (some d :: e) (lv st) = .ok d (lv st) := vGet_ok rfl h
theorem vg_int {i : Int} {e : Ev} : vGet 0 (some (.int i) :: e) (lv st) = .ok (.int i) (lv st) := rfl
theorem vg_tup {ds : List D} {e : Ev} : vGet 0 (some (.tup ds) :: e) (lv st) = .ok (.tup ds) (lv st) := rfl
theorem vg_loc {i : Nat} {e : Ev} : vGet 0 (some (.loc i) :: e) (lv st) = .ok (.loc i) (lv st) := rfl
theorem vg_str {x : Str} {e : Ev} : vGet 0 (some (.str x) :: e) (lv st) = .ok (.str x) (lv st) := rfl
theorem vg_bl {b : Bool} {e : Ev} : vGet 0 (some (.bl b) :: e) (lv st) = .ok (.bl b) (lv st) := rfl
theorem vg_non {e : Ev} : vGet 0 (some .non :: e) (lv st) = .ok .non (lv st) := rfl
theorem vg_fz {ds : List D} {e : Ev} : vGet 0 (some (.fz ds) :: e) (lv st) = .ok (.fz ds) (lv st) := rfl
theorem vg_s {i : Nat} {o : Option D} {e : Ev} : vGet (i + 1) (o :: e) (lv st) = vGet i e (lv st) := by
  unfold vGet
  rw [List.getElem?_cons_succ]
theorem set_z {o x : Option D} {e : Ev} : List.set (o :: e) 0 x = x :: e := rfl
theorem set_s {o x : Option D} {e : Ev} {i : Nat} : List.set (o :: e) (i + 1) x = o :: List.set e i x := rfl
theorem wp_nil : wipeE env [] = env := rfl
theorem wp_cons {v : Nat} {vs : List Nat} : wipeE env (v :: vs) = (wipeE env vs).set v none := rfl
/-! expressions -/
theorem e_var {i : Nat} : evE C (.var i) env (lv st) = vGet i env (lv st) := by simp only [evE]
theorem e_non : evE C .non env (lv st) = .ok .non (lv st) := by simp only [evE]
theorem e_bl {b : Bool} : evE C (.bl b) env (lv st) = .ok (.bl b) (lv st) := by simp only [evE]
theorem e_int {i : Int} : evE C (.int i) env (lv st) = .ok (.int i) (lv st) := by simp only [evE]
theorem e_str {x : Str} : evE C (.str x) env (lv st) = .ok (.str x) (lv st) := by simp only [evE]
theorem e_op {o : Op} {a b : E} : evE C (.op o a b) env (lv st) = (evE C a env (lv st)).bind fun x s1 => (evE C b env s1).bind fun y s2 => ofO (opD o x y s2) := by simp only [evE]
theorem e_cmp {o : Cm} {a b : E} : evE C (.cmp o a b) env (lv st) = (evE C a env (lv st)).bind fun x s1 => (evE C b env s1).bind fun y s2 => ofO (cmD o x y s2) := by simp only [evE]
theorem e_chain {o p : Cm} {a b c : E} : evE C (.chain o p a b c) env (lv st) = (evE C a env (lv st)).bind fun x s1 => (evE C b env s1).bind fun y s2 => (ofO (cmD o x y s2)).bind fun z s3 => (blB z s3).bind fun k s4 => ch k s4 (fun s => (evE C c env s).bind fun w s5 => ofO (cmD p y w s5)) (fun s => .ok (.bl false) s) := by simp only [evE]; rfl
theorem e_and {a b : E} : evE C (.and a b) env (lv st) = (evE C a env (lv st)).bind fun x s1 => (ofB (truD x s1) s1).bind fun k s2 => ch k s2 (fun s => evE C b env s) (fun s => .ok x s) := by simp only [evE]; rfl
theorem e_or {a b : E} : evE C (.or a b) env (lv st) = (evE C a env (lv st)).bind fun x s1 => (ofB (truD x s1) s1).bind fun k s2 => ch k s2 (fun s => .ok x s) (fun s => evE C b env s) := by simp only [evE]; rfl
theorem e_not {a : E} : evE C (.not a) env (lv st) = (evE C a env (lv st)).bind fun x s1 => (ofB (truD x s1) s1).bind fun k s2 => .ok (.bl (!k)) s2 := by simp only [evE]
theorem e_neg {a : E} : evE C (.neg a) env (lv st) = (evE C a env (lv st)).bind fun x s1 => ofO (negD x s1) := by simp only [evE]
theorem e_ite {c a b : E} : evE C (.ite c a b) env (lv st) = (evT C c env (lv st)).bind fun k s1 => ch k s1 (fun s => evE C a env s) (fun s => evE C b env s) := by simp only [evE]; rfl
theorem e_tup {es : EL} : evE C (.tup es) env (lv st) = (evL C es env (lv st)).bind fun ds s1 => ofO (mkTup ds s1) := by simp only [evE]
theorem e_tupS {e : E} {es : EL} : evE C (.tupS e es) env (lv st) = (evE C e env (lv st)).bind fun x s1 => ch (isTupD x) s1 (fun s => (evL C es env s).bind fun ds s2 => ofO (starD x ds s2)) (fun _ => .err) := by simp only [evE]; rfl
theorem e_lst {es : EL} : evE C (.lst es) env (lv st) = (evL C es env (lv st)).bind fun ds s1 => ofO (mkLst ds s1) := by simp only [evE]
theorem e_ix {a b : E} : evE C (.ix a b) env (lv st) = (evE C a env (lv st)).bind fun x s1 => (evE C b env s1).bind fun y s2 => ofO (ixD x y s2) := by simp only [evE]
theorem e_sl {a : E} {lo hi : OE} : evE C (.sl a lo hi) env (lv st) = (evE C a env (lv st)).bind fun d s1 => (evO C lo env s1).bind fun l s2 => (evO C hi env s2).bind fun u s3 => ofO (slD d l u s3) := by simp only [evE]
theorem e_rev {a : E} : evE C (.rev a) env (lv st) = (evE C a env (lv st)).bind fun d s1 => ofO (rev2D d s1) := by simp only [evE]
theorem e_blt {f : Bf} {es : EL} : evE C (.blt f es) env (lv st) = (evL C es env (lv st)).bind fun ds s1 => ofO (bfD f ds s1) := by simp only [evE]
theorem e_isi {a : E} {t : Ty} : evE C (.isi a t) env (lv st) = (evE C a env (lv st)).bind fun d s1 => ofO (isiD [t] d s1) := by simp only [evE]
theorem e_call {f : Nat} {es : EL} : evE C (.call f es) env (lv st) = (evL C es env (lv st)).bind fun ds s1 => C.ft f ds s1 := by simp only [evE]
theorem e_callK {f n : Nat} {ix : List Nat} {es ks : EL} : evE C (.callK f n ix es ks) env (lv st) = (evL C es env (lv st)).bind fun ds s1 => (evL C ks env s1).bind fun ws s2 => ch (decide (ds.length = n)) s2 (fun s => C.ft f (pick ix (ds ++ ws)) s) (fun _ => .err) := by
  simp only [evE, ch, decide_eq_true_eq]
theorem e_app {o : E} {es : EL} {m : Mt} : evE C (.mt m o es) env (lv st) = (evE C o env (lv st)).bind fun x s1 => ch (isL x s1) s1 (fun s => (evL C es env s).bind fun ds s2 => ofO (mtD m x ds s2)) (fun _ => .err) := by
  simp only [evE, fMt]
  rfl
theorem e_get2 {o k x : E} : evE C (.get2 o k x) env (lv st) = (evE C o env (lv st)).bind fun o s1 => ch (isDk o s1) s1 (fun s => (evE C k env s).bind fun k s2 => (evE C x env s2).bind fun x s3 => ofO (getD2 o k x s3)) (fun _ => .err) := by simp only [evE]; rfl
theorem e_lc {it : IT} {tg : Tg} {t : OE} {e : E} {vs : List Nat} : evE C (.lc it tg t e vs) env (lv st) = (evI C it env (lv st)).bind fun it s1 => lcEnd it (gT tg) (evOT C t) (evE C e) (wipeE env vs) s1 := by simp only [evE]; rfl
theorem e_all {it : IT} {tg : Tg} {e : E} {vs : List Nat} : evE C (.all it tg e vs) env (lv st) = (evI C it env (lv st)).bind fun it s1 => allS it (gT tg) (evE C e) it.n 0 (wipeE env vs) s1 := by simp only [evE]
theorem e_lam {h : Nat} {e : E} : evE C (.lam h e) env (lv st) = C.hf h (fun s => evE C e env s) (lv st) := by simp only [evE]
theorem e_bitl {e : E} : evE C (.bitl e) env (lv st) = (evE C e env (lv st)).bind fun d s1 => ofO (bitlD d s1) := by simp only [evE]
theorem l_nil : evL C .nil env (lv st) = .ok [] (lv st) := by simp only [evL]
theorem l_cons {e : E} {es : EL} : evL C (.cons e es) env (lv st) = (evE C e env (lv st)).bind fun d s1 => (evL C es env s1).bind fun ds s2 => .ok (d :: ds) s2 := by simp only [evL]
theorem o_none : evO C .none env (lv st) = .ok none (lv st) := by simp only [evO]
theorem o_some {e : E} : evO C (.some e) env (lv st) = (evE C e env (lv st)).bind partD := by simp only [evO]
theorem pt_int {i : Int} : partD (.int i) (lv st) = .ok (some i) (lv st) := rfl
theorem ot_none : evOT C .none env (lv st) = .ok true (lv st) := by simp only [evOT]
theorem ot_e {e : E} : evOT C (.some e) env (lv st) = evT C e env (lv st) := by simp only [evOT]
/-! tests -/
theorem t_cmp {o : Cm} {a b : E} : evT C (.cmp o a b) env (lv st) = (evE C (.cmp o a b) env (lv st)).bind blB := by simp only [evT, evE]
theorem t_chain {o p : Cm} {a b c : E} : evT C (.chain o p a b c) env (lv st) = (evE C (.chain o p a b c) env (lv st)).bind blB := by simp only [evT, evE]
theorem t_and {a b : E} : evT C (.and a b) env (lv st) = (evT C a env (lv st)).bind fun k s1 => ch k s1 (fun s => evT C b env s) (fun s => .ok false s) := by simp only [evT]; rfl
theorem t_or {a b : E} : evT C (.or a b) env (lv st) = (evT C a env (lv st)).bind fun k s1 => ch k s1 (fun s => .ok true s) (fun s => evT C b env s) := by simp only [evT]; rfl
theorem t_not {a : E} : evT C (.not a) env (lv st) = (evT C a env (lv st)).bind fun k s1 => .ok (!k) s1 := by simp only [evT]
theorem t_ite {c a b : E} : evT C (.ite c a b) env (lv st) = (evT C c env (lv st)).bind fun k s1 => ch k s1 (fun s => evT C a env s) (fun s => evT C b env s) := by simp only [evT]; rfl
theorem t_var {i : Nat} : evT C (.var i) env (lv st) = (evE C (.var i) env (lv st)).bind fun d s1 => ofB (truD d s1) s1 := by simp only [evT, evE]
theorem t_bl {b : Bool} : evT C (.bl b) env (lv st) = .ok b (lv st) := by simp only [evT]; rfl
theorem t_call {f : Nat} {es : EL} : evT C (.call f es) env (lv st) = (evE C (.call f es) env (lv st)).bind fun d s1 => ofB (truD d s1) s1 := by simp only [evT, evE]
theorem e_isE {i c c0 : Nat} {d : D} {th : Sto → Res D} : evE { C with ex := some (c0, d), th := th } (.isE i c) env (lv st) = isEF i (C.sub c0 c) env (lv st) := by simp only [evE, isER]
theorem e_thg {i c0 : Nat} {f : Str} {d : D} {th : Sto → Res D} : evE { C with ex := some (c0, d), th := th } (.thing i f) env (lv st) = thingF i (decide (f = C.fn c0)) d env (lv st) := by simp only [evE, thingR]
theorem t_isi {a : E} {t : Ty} : evT C (.isi a t) env (lv st) = (evE C (.isi a t) env (lv st)).bind fun d s1 => ofB (truD d s1) s1 := by simp only [evT, evE]
theorem t_ix {a b : E} : evT C (.ix a b) env (lv st) = (evE C (.ix a b) env (lv st)).bind fun d s1 => ofB (truD d s1) s1 := by simp only [evT, evE]
theorem t_op {o : Op} {a b : E} : evT C (.op o a b) env (lv st) = (evE C (.op o a b) env (lv st)).bind fun d s1 => ofB (truD d s1) s1 := by simp only [evT, evE]
theorem t_blt {f : Bf} {es : EL} : evT C (.blt f es) env (lv st) = (evE C (.blt f es) env (lv st)).bind fun d s1 => ofB (truD d s1) s1 := by simp only [evT, evE]
theorem e_sum {it : IT} {tg : Tg} {e : E} {vs : List Nat} : evE C (.sum it tg e vs) env (lv st) = (evI C it env (lv st)).bind fun it s1 => sumS it (gT tg) (evE C e) it.n 0 0 (wipeE env vs) s1 := by simp only [evE]
theorem e_any {it : IT} {tg : Tg} {e : E} {vs : List Nat} : evE C (.any it tg e vs) env (lv st) = (evI C it env (lv st)).bind fun it s1 => anyS it (gT tg) (evE C e) it.n 0 (wipeE env vs) s1 := by simp only [evE]
theorem e_glb {x : Str} {d : D} : evE C (.glb x d) env (lv st) = .ok d (lv st) := by simp only [evE]
theorem t_any {it : IT} {tg : Tg} {e : E} {vs : List Nat} : evT C (.any it tg e vs) env (lv st) = (evE C (.any it tg e vs) env (lv st)).bind fun d s1 => ofB (truD d s1) s1 := by simp only [evT, evE]
theorem s_aug {i : Nat} {o : Op} {e : E} : evS C (.aug i o e) env (lv st) = (vGet i env (lv st)).then env fun a s1 => (evE C e env s1).then env fun b s2 => (ofO (augD o a b s2)).then env fun d s3 => .nx (env.set i (some d)) s3 := by simp only [evS]
theorem au_add {i j : Int} : augD .add (.int i) (.int j) (lv st) = some (.int (i + j), lv st) := rfl
theorem au_sub {i j : Int} : augD .sub (.int i) (.int j) (lv st) = some (.int (i - j), lv st) := rfl
theorem au_fdiv {a b : D} : augD .fdiv a b (lv st) = opD .fdiv a b (lv st) := rfl
theorem t_all {it : IT} {tg : Tg} {e : E} {vs : List Nat} : evT C (.all it tg e vs) env (lv st) = (evE C (.all it tg e vs) env (lv st)).bind fun d s1 => ofB (truD d s1) s1 := by simp only [evT, evE]
theorem t_callK {f n : Nat} {ix : List Nat} {es ks : EL} : evT C (.callK f n ix es ks) env (lv st) = (evE C (.callK f n ix es ks) env (lv st)).bind fun d s1 => ofB (truD d s1) s1 := by simp only [evT, evE]
/-! what is walked -/
theorem i_val {e : E} : evI C (.val e) env (lv st) = (evE C e env (lv st)).bind itD := by simp only [evI]
theorem i_r1 {a : E} : evI C (.r1 a) env (lv st) = (evE C a env (lv st)).bind fun x s1 => rng1 [x] s1 := by
  simp only [evI]
  cases evE C a env (lv st) <;> rfl
theorem i_r2 {a b : E} : evI C (.r2 a b) env (lv st) = (evE C a env (lv st)).bind fun x s1 => (evE C b env s1).bind fun y s2 => rng2 [x, y] s2 := by
  simp only [evI]
  cases evE C a env (lv st) with
  | ok x s1 =>
    show Res.bind (Res.bind (Res.bind (evE C b env s1) _) _) _ = Res.bind (evE C b env s1) _
    cases evE C b env s1 <;> rfl
  | exc => rfl
  | err => rfl
theorem i_rev1 {a : E} : evI C (.rev1 a) env (lv st) = (evE C a env (lv st)).bind rev1 := by simp only [evI]
theorem i_enum {a : E} : evI C (.enum a) env (lv st) = (evE C a env (lv st)).bind fun x s1 => enD [x] s1 := by
  simp only [evI]
  cases evE C a env (lv st) <;> rfl
/-! statements -/
theorem s_nil : evSs C .nil env (lv st) = .nx env (lv st) := by simp only [evSs]
theorem s_cons {s : S} {r : SL} : evSs C (.cons s r) env (lv st) = (evS C s env (lv st)).bind fun e s1 => evSs C r e s1 := by simp only [evSs]
theorem s_expr {e : E} : evS C (.expr e) env (lv st) = (evE C e env (lv st)).then env fun _ s1 => .nx env s1 := by simp only [evS]
theorem s_ret {e : E} : evS C (.ret e) env (lv st) = (evE C e env (lv st)).then env fun d s1 => .rt d s1 := by simp only [evS]
theorem s_retN : evS C .retN env (lv st) = .rt .non (lv st) := by simp only [evS]
theorem s_set {i : Nat} {e : E} : evS C (.set i e) env (lv st) = (evE C e env (lv st)).then env fun d s1 => .nx (env.set i (some d)) s1 := by simp only [evS]
theorem s_asg {t : Tg} {e : E} : evS C (.asg t e) env (lv st) = (evE C e env (lv st)).then env fun d s1 => ofEv (gT t d env) s1 := by simp only [evS]
theorem s_par2 {i j : Nat} {a b : E} : evS C (.par2 i j a b) env (lv st) = (evE C a env (lv st)).then env fun x s1 => (evE C b env s1).then env fun y s2 => .nx ((env.set i (some x)).set j (some y)) s2 := by simp only [evS]
theorem s_par3 {i j l : Nat} {a b c : E} : evS C (.par3 i j l a b c) env (lv st) = (evE C a env (lv st)).then env fun x s1 => (evE C b env s1).then env fun y s2 => (evE C c env s2).then env fun z s3 => .nx (((env.set i (some x)).set j (some y)).set l (some z)) s3 := by simp only [evS]
theorem s_put {o i v : E} : evS C (.put o i v) env (lv st) = (evE C v env (lv st)).then env fun v s1 => (evE C o env s1).then env fun o s2 => (evE C i env s2).then env fun i s3 => ofSt (setD o i v s3) env := by simp only [evS]
theorem s_ite {c : E} {a b : SL} : evS C (.ite c a b) env (lv st) = (evT C c env (lv st)).then env fun k s1 => ch k s1 (fun s => evSs C a env s) (fun s => evSs C b env s) := by simp only [evS]; rfl
theorem s_for {t : Tg} {it : IT} {b : SL} : evS C (.for t it b) env (lv st) = (evI C it env (lv st)).then env fun it s1 => loopS it (gT t) (fun e s => evSs C b e s) it.n 0 env s1 := by simp only [evS]
theorem s_while {c : E} {b : SL} : evS C (.while c b) env (lv st) = whileS (fun e s => evT C c e s) (fun e s => evSs C b e s) C.fuel env (lv st) := by simp only [evS]
theorem s_brk : evS C .brk env (lv st) = .bk env (lv st) := by simp only [evS]
theorem s_cont : evS C .cont env (lv st) = .ct env (lv st) := by simp only [evS]
theorem s_pass : evS C .pass env (lv st) = .nx env (lv st) := by simp only [evS]
theorem s_raise {c : Nat} {e : E} : evS C (.raise c e) env (lv st) = (evE C e env (lv st)).then env fun d s1 => .exc c d env s1 := by simp only [evS]
/-! targets -/
theorem g_nm {i : Nat} {d : D} : gT (.nm i) d env = some (env.set i (some d)) := by simp only [gT]; rfl
theorem g_tp {l : TgL} {ds : List D} (h : ds.length = lT l) : gT (.tp l) (.tup ds) env = gTs l ds env := by simp only [gT, gTp, h, if_true]
theorem g_nil : gTs .nil [] env = some env := by simp only [gTs]; rfl
theorem g_cons {t : Tg} {l : TgL} {d : D} {ds : List D} : gTs (.cons t l) (d :: ds) env = (gT t d env).bind (gTs l ds) := by simp only [gTs]; rfl
theorem ob_bind {f : Ev → Option Ev} : (some env).bind f = f env := rfl
theorem lt_nil : lT .nil = 0 := by simp only [lT]
theorem lt_cons {t : Tg} {l : TgL} : lT (.cons t l) = lT l + 1 := by simp only [lT]
theorem tp1 {t : Tg} {d : D} : gT (.tp (.cons t .nil)) (.tup [d]) env = gTs (.cons t .nil) [d] env := g_tp (by simp [lT])
theorem tp2 {t u : Tg} {d e : D} : gT (.tp (.cons t (.cons u .nil))) (.tup [d, e]) env = gTs (.cons t (.cons u .nil)) [d, e] env := g_tp (by simp [lT])
theorem tp3 {t u v : Tg} {d e f : D} : gT (.tp (.cons t (.cons u (.cons v .nil)))) (.tup [d, e, f]) env = gTs (.cons t (.cons u (.cons v .nil))) [d, e, f] env := g_tp (by simp [lT])
/-! operators -/
theorem p_add {i j : Int} : opD .add (.int i) (.int j) (lv st) = some (.int (i + j), (lv st)) := rfl
theorem p_sub {i j : Int} : opD .sub (.int i) (.int j) (lv st) = some (.int (i - j), (lv st)) := rfl
theorem p_mul {i j : Int} (h : bits i + bits j < 1000000) : opD .mul (.int i) (.int j) (lv st) = some (.int (i * j), (lv st)) := by
  simp only [opD, mul2D, mulD, alt2, int2, mulI, h, if_true, Option.map_some]
theorem p_fdiv {i j : Int} (h : 0 < j ∧ bits j < 9000) : opD .fdiv (.int i) (.int j) (lv st) = some (.int (i / j), (lv st)) := by
  have e : i.fdiv j = i / j := Int.fdiv_eq_ediv_of_nonneg _ (Int.le_of_lt h.1)
  simp only [opD, int2, fdivI, h, e]
  by_cases h2 : j ≠ 0 ∧ j.natAbs < 1073741824
  · rw [if_pos h2]; rfl
  · rw [if_neg h2, if_pos ⟨trivial, trivial⟩]; rfl
theorem p_mod {i j : Int} (h : 0 < j) : opD .mod (.int i) (.int j) (lv st) = some (.int (i % j), (lv st)) := by
  have e : i.fmod j = i % j := Int.fmod_eq_emod_of_nonneg _ (Int.le_of_lt h)
  have n : j ≠ 0 := by omega
  simp only [opD, int2, modI, n, e, ne_eq, not_false_iff, if_true, Option.map_some]
theorem p_shl {i j : Int} (h : 0 ≤ j ∧ j ≤ 1000000 ∧ bits i < 1000000) : opD .shl (.int i) (.int j) (lv st) = some (.int (i * 2 ^ j.toNat), (lv st)) := by
  simp only [opD, int2, shlI, h, and_self, if_true, Option.map_some]
theorem p_shr {i j : Int} (h : 0 ≤ j) : opD .shr (.int i) (.int j) (lv st) = some (.int (i / 2 ^ j.toNat), (lv st)) := by
  simp only [opD, int2, shrI, h, if_true, Option.map_some]
theorem p_pow {i j : Int} (h : 0 ≤ j ∧ j ≤ 1000000 ∧ i.natAbs < 18446744073709551616) : opD .pow (.int i) (.int j) (lv st) = some (.int (i ^ j.toNat), (lv st)) := by
  simp only [opD, int2, powI, h, and_self, if_true, Option.map_some]
theorem p_neg {i : Int} : negD (.int i) (lv st) = some (.int (-i), (lv st)) := rfl
theorem p_catT {xs ys : List D} (h : xs.length + ys.length ≤ 100000) : opD .add (.tup xs) (.tup ys) (lv st) = some (.tup (xs ++ ys), (lv st)) := by
  simp only [opD, addD, alt2, int2, addS, addT, h, if_true]
theorem c_eq {i j : Int} : cmD .eq (.int i) (.int j) (lv st) = some (.bl (decide (i = j)), (lv st)) := by simp [cmD, eqD, alt2, eqS]
theorem c_ne {i j : Int} : cmD .ne (.int i) (.int j) (lv st) = some (.bl (!decide (i = j)), (lv st)) := by simp [cmD, neD, alt2, negB, eqS]
theorem c_lt {i j : Int} : cmD .lt (.int i) (.int j) (lv st) = some (.bl (decide (i < j)), (lv st)) := rfl
theorem c_le {i j : Int} : cmD .le (.int i) (.int j) (lv st) = some (.bl (decide (i ≤ j)), (lv st)) := rfl
theorem c_gt {i j : Int} : cmD .gt (.int i) (.int j) (lv st) = some (.bl (decide (i > j)), (lv st)) := rfl
theorem c_ge {i j : Int} : cmD .ge (.int i) (.int j) (lv st) = some (.bl (decide (i ≥ j)), (lv st)) := rfl
theorem c_eqs {x y : Str} : cmD .eq (.str x) (.str y) (lv st) = some (.bl (decide (x = y)), (lv st)) := by simp [cmD, eqD, alt2, eqS]
theorem c_nes {x y : Str} : cmD .ne (.str x) (.str y) (lv st) = some (.bl (!decide (x = y)), (lv st)) := by simp [cmD, neD, alt2, negB, eqS]
theorem c_is {d : D} : cmD .is d .non (lv st) = some (.bl (isNonD d), (lv st)) := rfl
theorem c_isnt {d : D} : cmD .isNot d .non (lv st) = some (.bl (!isNonD d), (lv st)) := rfl
theorem tr_bl {b : Bool} : truD (.bl b) (lv st) = some b := rfl
theorem tr_int {i : Int} : truD (.int i) (lv st) = some (i != 0) := rfl
theorem mk_tup {ds : List D} (h : ds.length ≤ 100000) : mkTup ds (lv st) = some (.tup ds, (lv st)) := if_pos h
theorem mk_lst {ds : List D} (h : ds.length ≤ 100000) : mkLst ds (lv st) = some (.loc st.length, lv (st ++ [.lst ds])) := if_pos h
theorem st_tup {xs ds : List D} (h : (xs ++ ds).length ≤ 100000) : starD (.tup xs) ds (lv st) = some (.tup (xs ++ ds), (lv st)) := mk_tup h
theorem is_tup {ds : List D} : isTupD (.tup ds) = true := rfl
theorem b_len {ds : List D} : bfD .len [.tup ds] (lv st) = some (.int ds.length, (lv st)) := rfl
theorem b_abs {i : Int} : bfD .abs [.int i] (lv st) = some (.int (i.natAbs : Int), (lv st)) := by
  have e : (if i < 0 then -i else i) = (i.natAbs : Int) := by split <;> omega
  show some (D.int (if i < 0 then -i else i), lv st) = _
  rw [e]
theorem b_int {i : Int} : bfD .int [.int i] (lv st) = some (.int i, (lv st)) := rfl
theorem b_bitl {i : Int} : bitlD (.int i) (lv st) = some (.int (Builtin.Int.intBits i : Nat), (lv st)) := rfl
theorem x_t0 {d : D} {ds : List D} : ixD (.tup (d :: ds)) (.int 0) (lv st) = some (d, (lv st)) := ixD_tup (by
  unfold atI ixN
  rw [if_pos (by decide), if_pos (by rw [List.length_cons]; omega)]; rfl)
theorem x_t1 {d e : D} {ds : List D} : ixD (.tup (d :: e :: ds)) (.int 1) (lv st) = some (e, (lv st)) := ixD_tup (by
  unfold atI ixN
  rw [if_pos (by decide), if_pos (by rw [List.length_cons, List.length_cons]; omega)]; rfl)
theorem x_t2 {d e f : D} {ds : List D} : ixD (.tup (d :: e :: f :: ds)) (.int 2) (lv st) = some (f, (lv st)) := ixD_tup (by
  unfold atI ixN
  rw [if_pos (by decide), if_pos (by rw [List.length_cons, List.length_cons, List.length_cons]; omega)]; rfl)
theorem i_tup {ds : List D} : itD (.tup ds) (lv st) = .ok (itTup ds) (lv st) := rfl
theorem mk_t0 : mkTup [] (lv st) = some (.tup [], (lv st)) := rfl
theorem mk_t1 {a : D} : mkTup [a] (lv st) = some (.tup [a], (lv st)) := rfl
theorem mk_t2 {a b : D} : mkTup [a, b] (lv st) = some (.tup [a, b], (lv st)) := rfl
theorem mk_t3 {a b c : D} : mkTup [a, b, c] (lv st) = some (.tup [a, b, c], (lv st)) := rfl
theorem mk_t4 {a b c d : D} : mkTup [a, b, c, d] (lv st) = some (.tup [a, b, c, d], (lv st)) := rfl
theorem mk_l0 : mkLst [] (lv st) = some (.loc st.length, lv (st ++ [.lst []])) := rfl
theorem mk_l1 {a : D} : mkLst [a] (lv st) = some (.loc st.length, lv (st ++ [.lst [a]])) := rfl
theorem mk_l2 {a b : D} : mkLst [a, b] (lv st) = some (.loc st.length, lv (st ++ [.lst [a, b]])) := rfl
theorem mk_l3 {a b c : D} : mkLst [a, b, c] (lv st) = some (.loc st.length, lv (st ++ [.lst [a, b, c]])) := rfl
theorem b_max {i j : Int} : bfD .max2 [.int i, .int j] (lv st) = some (.int (max i j), (lv st)) := by
  have e : (if j > i then j else i) = max i j := by split <;> omega
  show some (D.int (if j > i then j else i), lv st) = _
  rw [e]
theorem b_max3 {i j k : Int} : bfD .max2 [.int i, .int j, .int k] (lv st) = some (.int (max (max i j) k), (lv st)) := by
  have e : (if (if i < j then j else i) < k then k else if i < j then j else i) = max (max i j) k := by split <;> split <;> omega
  show some (D.int (if (if i < j then j else i) < k then k else if i < j then j else i), lv st) = _
  rw [e]
theorem b_min3 {i j k : Int} : bfD .min2 [.int i, .int j, .int k] (lv st) = some (.int (min (min i j) k), (lv st)) := by
  have e : (if k < (if j < i then j else i) then k else if j < i then j else i) = min (min i j) k := by split <;> split <;> omega
  show some (D.int (if k < (if j < i then j else i) then k else if j < i then j else i), lv st) = _
  rw [e]
theorem b_min {i j : Int} : bfD .min2 [.int i, .int j] (lv st) = some (.int (min i j), (lv st)) := by
  have e : (if j < i then j else i) = min i j := by split <;> omega
  show some (D.int (if j < i then j else i), lv st) = _
  rw [e]
end
section
variable {T : PT} {fu n : Nat} {ft : Nat → List D → Sto → Res D} {F : Fd} {f : Nat} {ds : List D} {st : Sto}
/-- a call begins -/
theorem c_in (h : T.fd.lookup f = some F) : callF T fu (n + 1) f ds st = ofSR (evSs (mkC T fu (callF T fu n)) F.body (env0 F.N.length ds) st) := cf_succ h
end
end Q
end

section
set_option Elab.async false
set_option linter.all false
set_option maxRecDepth 100000
set_option maxHeartbeats 1000000
set_option autoImplicit false
/-! What an evaluation ends with. -/
namespace Q
open PySem L2
def EnsR {α : Type} (r : Res α) (Q : α → Sto → Prop) : Prop := match r with
  | .ok a s => Q a s
  | _ => False
def Ens4 (r : SR) (N : Ev → Sto → Prop) (R : D → Sto → Prop) (K Ct : Ev → Sto → Prop) : Prop := match r with
  | .nx e s => N e s
  | .rt d s => R d s
  | .bk e s => K e s
  | .ct e s => Ct e s
  | _ => False
def dropS : Nat → SL → SL
  | 0, b => b
  | _ + 1, .nil => .nil
  | n + 1, .cons _ r => dropS n r
def nthS : Nat → SL → S
  | _, .nil => .pass
  | 0, .cons s _ => s
  | n + 1, .cons _ r => nthS n r
/-- the suite of a loop or a choice -/
def forB : S → SL
  | .for _ _ b => b
  | .while _ b => b
  | .ite _ b _ => b
  | _ => .nil
def noE : Ev → Sto → Prop := fun _ _ => False
def noD : D → Sto → Prop := fun _ _ => False
section
variable {α β : Type} {Q Q' : α → Sto → Prop} {N N' : Ev → Sto → Prop} {R R' : D → Sto → Prop} {K Ct : Ev → Sto → Prop} {env : Ev} {st : Sto}
theorem n_ok {a : α} : EnsR (.ok a (lv st)) Q = Q a (lv st) := rfl
theorem n_bind {r : Res β} {f : β → Sto → Res α} : EnsR (r.bind f) Q = EnsR r fun a s => EnsR (f a s) Q := by cases r <;> rfl
theorem n_nx : Ens4 (.nx env (lv st)) N R K Ct = N env (lv st) := rfl
theorem n_rt {d : D} : Ens4 (.rt d (lv st)) N R K Ct = R d (lv st) := rfl
theorem n_bk : Ens4 (.bk env (lv st)) N R K Ct = K env (lv st) := rfl
theorem n_ct : Ens4 (.ct env (lv st)) N R K Ct = Ct env (lv st) := rfl
theorem n_sb {r : SR} {f : Ev → Sto → SR} : Ens4 (r.bind f) N R K Ct = Ens4 r (fun e s => Ens4 (f e s) N R K Ct) R K Ct := by cases r <;> rfl
theorem n_th {r : Res α} {f : α → Sto → SR} : Ens4 (r.then env f) N R K Ct = EnsR r fun a s => Ens4 (f a s) N R K Ct := by cases r <;> rfl
theorem n_of {r : SR} {Q : D → Sto → Prop} : EnsR (ofSR r) Q = Ens4 r (fun _ s => Q .non s) Q noE noE := by cases r <;> rfl
theorem EnsR.imp {r : Res α} (h : EnsR r Q) (k : ∀ a s, Q a s → Q' a (lv s)) : EnsR r Q' := by
  cases r with
  | ok a s => exact k a s h
  | exc c d s => exact h.elim
  | err => exact h.elim
theorem EnsR.mono {r : Res α} (h : EnsR r Q) (k : ∀ a s, Q a s → Q' a s) : EnsR r Q' := h.imp k
theorem Ens4.imp {r : SR} {K' Ct' : Ev → Sto → Prop} (h : Ens4 r N R K Ct) (k1 : ∀ e s, N e s → N' e s) (k2 : ∀ d s, R d s → R' d s) (k3 : ∀ e s, K e s → K' e s) (k4 : ∀ e s, Ct e s → Ct' e s) : Ens4 r N' R' K' Ct' := by
  cases r with
  | nx e s => exact k1 _ _ h
  | rt d s => exact k2 _ _ h
  | bk e s => exact k3 _ _ h
  | ct e s => exact k4 _ _ h
  | exc c d e s => exact h.elim
  | err => exact h.elim
theorem EnsR.ex {r : Res α} (h : EnsR r Q) : ∃ a s, r = .ok a s ∧ Q a s := by
  cases r with
  | ok a s => exact ⟨a, s, rfl, h⟩
  | exc c d s => exact h.elim
  | err => exact h.elim
theorem EnsR.of {r : Res α} {a : α} {s : Sto} (e : r = .ok a s) (h : Q a s) : EnsR r Q := by rw [e]; exact h
theorem n_ch {k : Bool} {s : Sto} {a b : Sto → Res α} : EnsR (ch k s a b) Q = ch k s (fun s => EnsR (a s) Q) (fun s => EnsR (b s) Q) := by cases k <;> rfl
theorem n_ch4 {k : Bool} {s : Sto} {a b : Sto → SR} : Ens4 (ch k s a b) N R K Ct = ch k s (fun s => Ens4 (a s) N R K Ct) (fun s => Ens4 (b s) N R K Ct) := by cases k <;> rfl
/-- a choice by a proposition -/
theorem ch_by {p : Prop} [Decidable p] {s : Sto} {a b : Sto → Prop} (h1 : p → a s) (h2 : ¬ p → b s) : ch (decide p) s a b := by
  by_cases h : p
  · rw [ch_d h]; exact h1 h
  · rw [ch_n h]; exact h2 h
theorem ch_not {α : Type} {k : Bool} {s : Sto} {a b : Sto → α} : ch (!k) s a b = ch k s b a := by cases k <;> rfl
theorem ch_bb {k : Bool} {s : Sto} {a b : Sto → Prop} (h1 : k = true → a s) (h2 : k = false → b s) : ch k s a b := by
  cases k
  · exact h2 rfl
  · exact h1 rfl
/-- one of two propositions -/
def pb (k : Bool) (a b : Prop) : Prop := if k = true then a else b
/-! loops -/
theorem n_loop_from {it : ItD} {g : D → Ev → Option Ev} {body : Ev → Sto → SR} (I : Nat → Ev → Sto → Prop) (step : ∀ i env st, i < it.n → I i env st → ∃ d env1, it.item i st = some d ∧ g d env = some env1 ∧ Ens4 (body env1 (lv st)) (I (i + 1)) R N (I (i + 1))) (fin : ∀ env st, I it.n env st → it.fin st = true ∧ N env (lv st)) :
    ∀ k i env st, i + k = it.n → I i env st → Ens4 (loopS it g body k i env st) N R K Ct
  | 0, i, env, st, hk, h => by
    have e : i = it.n := by omega
    rw [e] at h
    obtain ⟨h1, h2⟩ := fin env st h
    rw [loopS, if_pos h1]
    exact h2
  | k + 1, i, env, st, hk, h => by
    obtain ⟨d, env1, e1, e2, h3⟩ := step i env st (by omega) h
    rw [loopS, e1]
    simp only [e2]
    have h3 : Ens4 (body env1 st) (I (i + 1)) R N (I (i + 1)) := h3
    cases e3 : body env1 st with
    | nx e s => rw [e3] at h3; exact n_loop_from I step fin k (i + 1) e s (by omega) h3
    | ct e s => rw [e3] at h3; exact n_loop_from I step fin k (i + 1) e s (by omega) h3
    | bk e s => rw [e3] at h3; exact h3
    | rt d s => rw [e3] at h3; exact h3
    | exc c d e s => rw [e3] at h3; exact h3.elim
    | err => rw [e3] at h3; exact h3.elim
theorem n_loop {it : ItD} {g : D → Ev → Option Ev} {body : Ev → Sto → SR} {env : Ev} {st : Sto} (I : Nat → Ev → Sto → Prop) (h0 : I 0 env st) (step : ∀ i env st, i < it.n → I i env st → ∃ d env1, it.item i st = some d ∧ g d env = some env1 ∧ Ens4 (body env1 (lv st)) (I (i + 1)) R N (I (i + 1))) (fin : ∀ env st, I it.n env st → it.fin st = true ∧ N env (lv st)) :
    Ens4 (loopS it g body it.n 0 env st) N R K Ct := n_loop_from I step fin it.n 0 env st (by omega) h0
/-! comprehensions -/
theorem n_lc_from {it : ItD} {g : D → Ev → Option Ev} {T : Ev → Sto → Res Bool} {F : Ev → Sto → Res D} {env : Ev} {n0 : Nat} (I : Nat → List D → Sto → Prop)
    (step : ∀ i acc st, i < it.n → I i acc st → lenAt n0 st = some acc → ∃ d env1, it.item i st = some d ∧ g d env = some env1 ∧ EnsR (T env1 (lv st)) fun b s1 => pb b (EnsR (F env1 (lv s1)) fun y s2 => lenAt n0 s2 = some acc ∧ acc.length < 100000 ∧ I (i + 1) (acc ++ [y]) (s2.set n0 (.lst (acc ++ [y])))) (lenAt n0 s1 = some acc ∧ I (i + 1) acc s1)) :
    ∀ k i acc st, i + k = it.n → I i acc st → lenAt n0 st = some acc → (∀ acc st, I it.n acc st → lenAt n0 st = some acc → it.fin st = true) → ∃ acc' st', lcLoop it g T F env n0 k i st = some st' ∧ I it.n acc' st' ∧ lenAt n0 st' = some acc'
  | 0, i, acc, st, hk, h, hl, fin => by
    have e : i = it.n := by omega
    rw [e] at h
    exact ⟨acc, st, by rw [lcLoop, if_pos (fin acc st h hl)], h, hl⟩
  | k + 1, i, acc, st, hk, h, hl, fin => by
    obtain ⟨d, env1, e1, e2, h3⟩ := step i acc st (by omega) h hl
    obtain ⟨b, s1, e3, h4⟩ := (show EnsR (T env1 st) _ from h3).ex
    cases b with
    | true =>
      obtain ⟨y, s2, e4, h5, h6, h7⟩ := EnsR.ex (show EnsR (F env1 s1) _ from h4)
      have hn : n0 < s2.length := lt_of_get (lenAt_of h5)
      have hl2 : lenAt n0 (s2.set n0 (.lst (acc ++ [y]))) = some (acc ++ [y]) := by
        unfold lenAt
        rw [List.getElem?_set_self (by exact hn)]
      obtain ⟨acc', st', e5, h8⟩ := n_lc_from I step k (i + 1) (acc ++ [y]) (s2.set n0 (.lst (acc ++ [y]))) (by omega) h7 hl2 fin
      refine ⟨acc', st', ?_, h8⟩
      rw [lcLoop, e1]
      simp only [e2, e3, e4, h5, if_pos h6, e5]
    | false =>
      have h4 : lenAt n0 s1 = some acc ∧ I (i + 1) acc s1 := h4
      obtain ⟨acc', st', e5, h8⟩ := n_lc_from I step k (i + 1) acc s1 (by omega) h4.2 h4.1 fin
      refine ⟨acc', st', ?_, h8⟩
      rw [lcLoop, e1]
      simp only [e2, e3, e5]
theorem lcEnd_eq {it : ItD} {g : D → Ev → Option Ev} {T : Ev → Sto → Res Bool} {F : Ev → Sto → Res D} {env : Ev} {st st' : Sto} (h : lcLoop it g T F env st.length it.n 0 (st ++ [.lst []]) = some st') : lcEnd it g T F env st = .ok (.loc st.length) st' := by
  simp only [lcEnd, h]
theorem n_lc {it : ItD} {g : D → Ev → Option Ev} {T : Ev → Sto → Res Bool} {F : Ev → Sto → Res D} {env : Ev} {st : Sto} {Q : D → Sto → Prop} (I : Nat → List D → Sto → Prop) (h0 : I 0 [] (st ++ [.lst []]))
    (step : ∀ i acc s, i < it.n → I i acc s → lenAt st.length s = some acc → ∃ d env1, it.item i s = some d ∧ g d env = some env1 ∧ EnsR (T env1 (lv s)) fun b s1 => pb b (EnsR (F env1 (lv s1)) fun y s2 => lenAt st.length s2 = some acc ∧ acc.length < 100000 ∧ I (i + 1) (acc ++ [y]) (s2.set st.length (.lst (acc ++ [y])))) (lenAt st.length s1 = some acc ∧ I (i + 1) acc s1))
    (fin : ∀ acc s, I it.n acc s → lenAt st.length s = some acc → it.fin s = true ∧ Q (.loc st.length) s) : EnsR (lcEnd it g T F env st) Q := by
  have hl : lenAt st.length (st ++ [.lst []]) = some [] := by
    unfold lenAt
    rw [List.getElem?_append_right (Nat.le_refl _), Nat.sub_self]; rfl
  obtain ⟨acc, s, e, h1, h2⟩ := n_lc_from I step it.n 0 [] (st ++ [.lst []]) (by omega) h0 hl fun acc s a b => (fin acc s a b).1
  rw [lcEnd_eq e]
  exact (fin acc s h1 h2).2
theorem EnsR.eq {r : Res α} {x : α} {y : Sto} (h : EnsR r fun a s => a = x ∧ s = y) : r = .ok x y := by
  obtain ⟨a, s, e, rfl, rfl⟩ := h.ex
  exact e
/-! all over a tuple -/
theorem allS_from {i : Nat} {F : Ev → Sto → Res D} {env : Ev} {st : Sto} {all : List D} {p : D → Bool} : ∀ (ds : List D) (j : Nat) (e : Ev), (∀ d ∈ ds, F (env.set i (some d)) st = .ok (.bl (p d)) st) → (∀ o, e.set i o = env.set i o) → all.drop j = ds → allS (itTup all) (gT (.nm i)) F ds.length j e st = .ok (.bl (ds.all p)) st
  | [], j, e, hF, he, hd => by
    rw [List.length_nil, allS]
    rfl
  | d :: ds, j, e, hF, he, hd => by
    have hj : all[j]? = some d := by
      have := congrArg List.head? hd
      rwa [List.head?_drop] at this
    have hd2 : all.drop (j + 1) = ds := by
      rw [← List.drop_drop, hd]; rfl
    rw [List.length_cons, allS]
    have e1 : (itTup all).item j st = some d := hj
    rw [e1]
    simp only [g_nm, he, hF d (by simp)]
    cases hp : p d with
    | true =>
      simp only
      rw [allS_from ds (j + 1) (env.set i (some d)) (fun x hx => hF x (by simp [hx])) (fun o => by rw [List.set_set]) hd2]
      simp [hp]
    | false => simp [hp]
theorem allS_tup {i : Nat} {F : Ev → Sto → Res D} {env : Ev} {st : Sto} {ds : List D} {p : D → Bool} (hF : ∀ d ∈ ds, F (env.set i (some d)) st = .ok (.bl (p d)) st) : allS (itTup ds) (gT (.nm i)) F (itTup ds).n 0 env st = .ok (.bl (ds.all p)) st := allS_from ds 0 env hF (fun _ => rfl) rfl
end
end Q
end

section
set_option linter.all false
set_option maxRecDepth 100000
set_option autoImplicit false
/-! The rules as one. -/
namespace Q
open PySem L2
def evAll0 := And.intro @vg_int (And.intro @vg_tup (And.intro @vg_loc (And.intro @vg_str (And.intro @vg_bl (And.intro @vg_non (And.intro @vg_fz (And.intro @ch_t (And.intro @ch_f (And.intro @rb_ok (And.intro @rb_exc (And.intro @rt_ok (And.intro @rt_exc (And.intro @sb_nx (And.intro @sb_rt (And.intro @sb_bk (And.intro @sb_ct (And.intro @sb_exc (And.intro @os_nx (And.intro @os_rt (And.intro @os_exc (And.intro @oo_some (And.intro @ob_some (And.intro @bl_ok (And.intro @oe_some (And.intro @ot_some (And.intro @nx_int (And.intro @nx_tup (And.intro @nx_loc (@nx_str)))))))))))))))))))))))))))))
def evAll1 := And.intro @nx_bl (And.intro @nx_non (And.intro @nx_fz (And.intro @vg_z (And.intro @vg_s (And.intro @set_z (And.intro @set_s (And.intro @wp_nil (And.intro @wp_cons (And.intro @e_var (And.intro @e_non (And.intro @e_bl (And.intro @e_int (And.intro @e_str (And.intro @e_op (And.intro @e_cmp (And.intro @e_chain (And.intro @e_and (And.intro @e_or (And.intro @e_not (And.intro @e_neg (And.intro @e_ite (And.intro @e_tup (And.intro @e_tupS (And.intro @e_lst (And.intro @e_ix (And.intro @e_sl (And.intro @e_rev (And.intro @e_blt (@e_isi)))))))))))))))))))))))))))))
def evAll2 := And.intro @e_call (And.intro @e_callK (And.intro @e_app (And.intro @e_get2 (And.intro @e_bitl (And.intro @l_nil (And.intro @l_cons (And.intro @o_none (And.intro @o_some (And.intro @pt_int (And.intro @ot_none (And.intro @ot_e (And.intro @t_cmp (And.intro @t_chain (And.intro @t_and (And.intro @t_or (And.intro @t_not (And.intro @t_ite (And.intro @t_var (And.intro @t_bl (And.intro @t_call (And.intro @t_isi (And.intro @t_ix (And.intro @t_op (And.intro @t_blt (And.intro @t_all (And.intro @t_callK (And.intro @i_val (And.intro @i_r1 (@i_r2)))))))))))))))))))))))))))))
def evAll3 := And.intro @i_enum (And.intro @s_nil (And.intro @s_cons (And.intro @s_expr (And.intro @s_ret (And.intro @s_retN (And.intro @s_set (And.intro @s_asg (And.intro @s_par2 (And.intro @s_par3 (And.intro @s_put (And.intro @s_ite (And.intro @s_brk (And.intro @s_cont (And.intro @s_pass (And.intro @s_raise (And.intro @g_nm (And.intro @g_nil (And.intro @g_cons (And.intro @ob_bind (And.intro @tp1 (And.intro @tp2 (And.intro @tp3 (And.intro @p_add (And.intro @p_sub (And.intro @p_mul (And.intro @p_fdiv (And.intro @p_mod (And.intro @p_shl (@p_shr)))))))))))))))))))))))))))))
def evAll4 := And.intro @p_neg (And.intro @c_eq (And.intro @c_ne (And.intro @c_lt (And.intro @c_le (And.intro @c_gt (And.intro @c_ge (And.intro @c_eqs (And.intro @c_nes (And.intro @c_is (And.intro @c_isnt (And.intro @tr_bl (And.intro @tr_int (And.intro @is_tup (And.intro @b_len (And.intro @b_abs (And.intro @b_int (And.intro @b_bitl (And.intro @x_t0 (And.intro @x_t1 (And.intro @x_t2 (And.intro @mk_t0 (And.intro @mk_t1 (And.intro @mk_t2 (And.intro @mk_t3 (And.intro @mk_t4 (And.intro @mk_l0 (And.intro @mk_l1 (And.intro @mk_l2 (@mk_l3)))))))))))))))))))))))))))))
def evAll5 := And.intro @b_max (And.intro @b_min (And.intro @b_max3 (And.intro @b_min3 (And.intro @n_ok (And.intro @n_bind (And.intro @n_nx (And.intro @n_rt (And.intro @n_bk (And.intro @n_ct (And.intro @n_sb (And.intro @n_th (And.intro @n_of (And.intro @n_ch (And.intro @n_ch4 (And.intro @ch_not (And.intro @mk_lst (@mk_tup)))))))))))))))))
def evAll6 := And.intro @e_sum (And.intro @e_any (And.intro @e_glb (And.intro @t_any (And.intro @s_aug (And.intro @au_add (And.intro @au_sub @au_fdiv))))))
end Q
end

section
set_option Elab.async false
set_option linter.all false
set_option maxRecDepth 100000
set_option maxHeartbeats 1000000
set_option autoImplicit false
/-! What may be shown. -/
namespace Q
open PySem L2
theorem mapO_mono {α β : Type} {f g : α → Option β} (h : ∀ a b, f a = some b → g a = some b) : ∀ {xs : List α} {ys : List β}, mapO f xs = some ys → mapO g xs = some ys
  | [], ys, e => by simpa [mapO] using e
  | x :: xs, ys, e => by
    simp only [mapO] at e ⊢
    split at e
    · rename_i y zs e1 e2
      cases e
      rw [h _ _ e1, mapO_mono h e2]
    · cases e
theorem toP_up {st : Sto} : ∀ {k : Nat} {d : D} {p : PyData}, toP st k d = some p → toP st (k + 1) d = some p
  | 0, d, p, h => by simp [toP] at h
  | k + 1, d, p, h => by
    have ih := fun d p => toP_up (st := st) (k := k) (d := d) (p := p)
    cases d with
    | tup ds =>
      simp only [toP] at h ⊢
      obtain ⟨ps, e, rfl⟩ := Option.map_eq_some_iff.mp h
      rw [mapO_mono ih e]; rfl
    | fz ds =>
      simp only [toP] at h ⊢
      obtain ⟨ps, e, rfl⟩ := Option.map_eq_some_iff.mp h
      rw [mapO_mono ih e]; rfl
    | loc l =>
      simp only [toP] at h ⊢
      split at h
      · rename_i ds e1
        obtain ⟨ps, e, rfl⟩ := Option.map_eq_some_iff.mp h
        simp only [mapO_mono ih e]; rfl
      · rename_i kvs e1
        obtain ⟨ps, e, rfl⟩ := Option.map_eq_some_iff.mp h
        rw [mapO_mono (fun kv p hp => ?_) e]; rfl
        obtain ⟨q, h1, h2⟩ := Option.map_eq_some_iff.mp hp
        rw [ih _ _ h1]
        exact h2 ▸ rfl
      · cases h
    | exo l => simp [toP] at h
    | _ => simpa only [toP] using h
theorem toP_le {st : Sto} {k : Nat} {d : D} {p : PyData} (h : toP st k d = some p) : ∀ j, toP st (k + j) d = some p
  | 0 => h
  | j + 1 => toP_up (toP_le h j)
theorem tupleText_le (ts : List Str) : (tupleText ts).length ≤ piled ts + 3 := by
  have e : (tupleText ts).length = 1 + (Str.join ", " ts).length + (if (ts.length == 1) = true then 2 else 1) := by
    unfold tupleText
    rw [Str.length_append, Str.length_append]
    by_cases h : (ts.length == 1) = true
    · rw [if_pos h, if_pos h]; rfl
    · rw [if_neg h, if_neg h]; rfl
  by_cases h : ts = []
  · subst h
    have : (Str.join ", " ([] : List Str)).length = 0 := rfl
    rw [e, this]
    simp
  · have := join_length_add ts h
    rw [e]
    split <;> omega
theorem textFrom_le : ∀ (ts : List Str) (k : Nat) (acc : Str), (textFrom k acc ts).length ≤ acc.length + piled ts
  | [], k, acc => Nat.le_add_right _ _
  | t :: r, k, acc => by
    have h := textFrom_le r (k + 1) (acc ++ (if k > 0 then ", " else "" : String) ++ t)
    have e : (acc ++ ((if k > 0 then ", " else "" : String) : Str) ++ t).length ≤ acc.length + 2 + t.length := by
      rw [Str.length_append, Str.length_append]
      by_cases hk : k > 0
      · rw [if_pos hk]
        have : ((", " : String) : Str).length = 2 := rfl
        omega
      · rw [if_neg hk]
        have : (("" : String) : Str).length = 0 := rfl
        omega
    have p : piled (t :: r) = t.length + 2 + piled r := by simp [piled]
    show (textFrom (k + 1) (acc ++ (if k > 0 then ", " else "" : String) ++ t) r).length ≤ _
    omega
theorem listText_le (ts : List Str) : (listText ts).length ≤ piled ts + 3 := by
  unfold listText
  rw [Str.length_append]
  have h := textFrom_le ts 0 "["
  have e1 : (("[" : String) : Str).length = 1 := rfl
  have e2 : (("]" : String) : Str).length = 1 := rfl
  omega
/-- a value of the data p, with a bound of its text -/
structure Rp (st : Sto) (k L : Nat) (d : D) (p : PyData) : Prop where
  to : toP st k d = some p
  sh : p.showable = true
  len : p.shown.length ≤ L
  dep : p.depth ≤ k
  nd : p.hasDict = false
section
variable {st : Sto} {k L : Nat} {d : D} {p : PyData}
theorem Rp.mono (h : Rp st k L d p) {k' L' : Nat} (hk : k ≤ k') (hL : L ≤ L') : Rp st k' L' d p := ⟨by
  obtain ⟨j, rfl⟩ := Nat.exists_eq_add_of_le hk
  exact toP_le h.to j, h.sh, Nat.le_trans h.len hL, Nat.le_trans h.dep hk, h.nd⟩
theorem Rp.shown (h : Rp st k L d p) (hk : k ≤ 30) (hL : L ≤ 16000000) : shownD d st = some p.shown := by
  have h2 := h.mono hk hL
  unfold shownD
  rw [h2.to]
  show (if _ then _ else _) = _
  rw [if_pos ⟨h2.sh, h2.len, Nat.le_trans h2.dep (by omega), fun z => by rw [h2.nd] at z; cases z⟩]
theorem Rp.b (h : Rp st k L d p) (hk : k ≤ 30) (hL : L ≤ 16000000) : bfD .repr [d] st = some (.str p.shown, st) := by
  show (shownD d st).map _ = _
  rw [h.shown hk hL]; rfl
theorem log2_lt_of {n k : Nat} (h : n < 2 ^ k) (hk : 0 < k) : n.log2 < k := by
  by_cases h0 : n = 0
  · rw [h0]; simpa using hk
  · exact (Nat.log2_lt h0).mpr h
theorem int_len {i : Int} {k : Nat} (hk : 0 < k) (h : i.natAbs < 2 ^ k) : (PyData.shown (.int i)).length ≤ k + 1 := by
  have e : PyData.shown (.int i) = ((toString i : String) : Str) := by simp only [PyData.shown]
  rw [e]
  show (Str.ofString (toString i)).length ≤ _
  rw [ofString_length]
  exact int_text_length_le hk (log2_lt_of h hk)
theorem rp_int {i : Int} (h : i.natAbs < 2 ^ 1900) : Rp st (k + 1) 1901 (.int i) (.int i) := by
  refine ⟨by simp [toP], ?_, int_len (by omega) h, Nat.zero_le _, by simp only [PyData.hasDict]⟩
  simp only [PyData.showable, decide_eq_true_eq]
  exact Nat.lt_of_lt_of_le (log2_lt_of h (by omega)) (by omega)
theorem rp_non : Rp st (k + 1) 4 .non .none := ⟨by simp [toP], by simp only [PyData.showable], by simp only [PyData.shown]; decide, Nat.zero_le _, by simp only [PyData.hasDict]⟩
theorem rp_bl {b : Bool} : Rp st (k + 1) 5 (.bl b) (.bool b) := ⟨by simp [toP], by simp only [PyData.showable], by simp only [PyData.shown]; cases b <;> decide, Nat.zero_le _, by simp only [PyData.hasDict]⟩
inductive Rps (st : Sto) (k L : Nat) : List D → List PyData → Prop
  | nil : Rps st k L [] []
  | cons {d : D} {ds : List D} {p : PyData} {ps : List PyData} : Rp st k L d p → Rps st k L ds ps → Rps st k L (d :: ds) (p :: ps)
theorem Rps.all {ds : List D} {ps : List PyData} (h : Rps st k L ds ps) : mapO (toP st k) ds = some ps ∧ PyData.showableAll ps = true ∧ piled (PyData.shownAll ps) ≤ ds.length * (L + 2) ∧ PyData.depthAll ps ≤ k ∧ PyData.hasDictAll ps = false := by
  induction h with
  | nil => exact ⟨rfl, by simp only [PyData.showableAll], Nat.zero_le _, Nat.zero_le _, by simp only [PyData.hasDictAll]⟩
  | @cons d ds p ps h1 h2 ih =>
    obtain ⟨i1, i2, i3, i4, i5⟩ := ih
    refine ⟨by simp only [mapO, h1.to, i1], by simp only [PyData.showableAll, h1.sh, i2, Bool.and_self], ?_, ?_, by simp only [PyData.hasDictAll, h1.nd, i5, Bool.or_self]⟩
    · have e : piled (PyData.shownAll (p :: ps)) = p.shown.length + 2 + piled (PyData.shownAll ps) := by simp [PyData.shownAll, piled]
      have := h1.len
      rw [e, List.length_cons, Nat.succ_mul]
      omega
    · have := h1.dep
      simp only [PyData.depthAll]
      omega
theorem rp_tup {ds : List D} {ps : List PyData} (h : Rps st k L ds ps) : Rp st (k + 1) (ds.length * (L + 2) + 3) (.tup ds) (.tuple ps) := by
  obtain ⟨h1, h2, h3, h4, h5⟩ := h.all
  refine ⟨by simp only [toP, h1, Option.map_some], by simp only [PyData.showable, h2], ?_, by simp only [PyData.depth]; omega, by simp only [PyData.hasDict, h5]⟩
  simp only [PyData.shown]
  have := tupleText_le (PyData.shownAll ps)
  omega
theorem rp_loc {ds : List D} {ps : List PyData} {l : Nat} (hl : st[l]? = some (.lst ds)) (h : Rps st k L ds ps) : Rp st (k + 1) (ds.length * (L + 2) + 3) (.loc l) (.list ps) := by
  obtain ⟨h1, h2, h3, h4, h5⟩ := h.all
  refine ⟨by simp only [toP, hl, h1, Option.map_some], by simp only [PyData.showable, h2], ?_, by simp only [PyData.depth]; omega, by simp only [PyData.hasDict, h5]⟩
  simp only [PyData.shown]
  have := listText_le (PyData.shownAll ps)
  omega
theorem rps_ints : ∀ {ns : List Int}, (∀ i ∈ ns, i.natAbs < 2 ^ 1900) → Rps st (k + 1) 1901 (ns.map D.int) (ns.map PyData.int)
  | [], _ => .nil
  | n :: ns, h => .cons (rp_int (h n (by simp))) (rps_ints fun i hi => h i (by simp [hi]))
end
end Q
end

section
set_option Elab.async false
set_option linter.all false
set_option maxRecDepth 100000
set_option maxHeartbeats 1000000
set_option autoImplicit false
/-! The deck with a budget of draws. -/
namespace Q
open PySem L2
/-- the deck at n and m; B more draws are free -/
def Dq (key : Str) (st : Sto) (n m : Nat) (B : Int) : Prop := ∃ b, Deck key st n m b ∧ 0 ≤ b ∧ b + B < 2 ^ 39
section
variable {key : Str} {st s : Sto} {n m : Nat} {B B' : Int}
theorem Dq.le (h : Dq key st n m B) (hb : B' ≤ B) : Dq key st n m B' := by
  obtain ⟨b, h1, h2, h3⟩ := h
  exact ⟨b, h1, h2, by omega⟩
theorem Dq.app {more : Sto} (h : Dq key st n m B) : Dq key (st ++ more) n m B := by
  obtain ⟨b, h1, h2, h3⟩ := h
  exact ⟨b, h1.app, h2, h3⟩
theorem Dq.set {k : Nat} {o : Ob} (h : Dq key st n m B) (h1 : k ≠ n) (h2 : k ≠ m) : Dq key (st.set k o) n m B := by
  obtain ⟨b, ⟨ne, ⟨a, hd, ha⟩, cs, hl, hc⟩, h3⟩ := h
  exact ⟨b, ⟨ne, ⟨a, by rw [get_set, if_neg h1, hd], ha⟩, cs, by rw [get_set, if_neg h2, hl], hc⟩, h3⟩
theorem Dq.lt (h : Dq key st n m B) : n < st.length ∧ m < st.length := by
  obtain ⟨b, ⟨ne, ⟨a, hd, _⟩, cs, hl, _⟩, _⟩ := h
  exact ⟨lt_of_get hd, lt_of_get hl⟩
theorem Fr.get {l : Nat} {o : Ob} (F : Fr n m st s) (h : st[l]? = some o) (h1 : l ≠ n) (h2 : l ≠ m) : s[l]? = some o := by rw [F.2 l (lt_of_get h) h1 h2, h]
theorem Fr.set {k : Nat} {o : Ob} (F : Fr n m st s) (h : st.length ≤ k) : Fr n m st (s.set k o) := ⟨by rw [List.length_set]; exact F.1, fun j hj h1 h2 => by
  rw [get_set, if_neg (by omega)]
  exact F.2 j hj h1 h2⟩
theorem Fr.lenAt {l : Nat} {ds : List D} (F : Fr n m st s) (h : lenAt l st = some ds) (h1 : l ≠ n) (h2 : l ≠ m) : Q.lenAt l s = some ds := by
  have := F.get (lenAt_of h) h1 h2
  unfold Q.lenAt
  rw [this]
end
section
variable {T : PT} {fu k : Nat} {key : Str}
/-- what a draw does -/
def DrawQ (T : PT) (fu k i : Nat) (key : Str) : Prop := ∀ (st : Sto) (n m : Nat) (B many : Int), Dq key st n m (B + 1) → 0 ≤ B → 0 < many → many < 1073741824 → EnsR (callF T fu k i [.loc n, .int many] st) fun d s => ∃ r : Int, d = .int r ∧ 0 ≤ r ∧ r < many ∧ Dq key s n m B ∧ Fr n m st s
theorem drawQ {i : Nat} {F : Fd} {c1 c2 c3 c4 c5 c6 c7 c8 c9 c10 : Int} (h : T.fd.lookup i = some F) (hb : F.body = drawS key c1 c2 c3 c4 c5 c6 c7 c8 c9 c10) (hN : F.N.length = 4) (k1 : key ≠ "mixed") (k2 : key ≠ "draws") (h1 : Cn c1) (h2 : Cn c2) (h3 : Cn c3) (h4 : Cn c4) (h5 : Cn c5) (h6 : Cn c6) (h7 : Cn c7) (h8 : Cn c8) (h9 : Cn c9) (h10 : Cn c10) : DrawQ T fu (k + 1) i key := by
  intro st n m B many Dk hB hm1 hm2
  obtain ⟨b, D1, b0, b1⟩ := Dk
  obtain ⟨r, st', e, ⟨r0, r1⟩, D2, F2⟩ := draw_ok (C := mkC T fu (callF T fu k)) (x := none) (y := none) k1 k2 D1 h1 h2 h3 h4 h5 h6 h7 h8 h9 h10 ⟨b0, by omega⟩ ⟨hm1, hm2⟩
  rw [cf_succ h, hb, hN]
  show EnsR (ofSR (evSs _ _ [some (.loc n), some (.int many), none, none] st)) _
  rw [e]
  exact ⟨r, rfl, r0, r1, ⟨b + 1, D2, by omega, by omega⟩, F2⟩
/-- what a pick does -/
def PickQ (T : PT) (fu k i : Nat) (key : Str) : Prop := ∀ (st : Sto) (n m : Nat) (B : Int) (x : D) (ds : List D), Dq key st n m (B + 1) → 0 ≤ B → ((∃ l, x = .loc l ∧ st[l]? = some (.lst ds) ∧ l ≠ n ∧ l ≠ m) ∨ x = .tup ds) → ds ≠ [] → ds.length < 1000000 → EnsR (callF T fu k i [.loc n, x] st) fun d s => d ∈ ds ∧ Dq key s n m B ∧ Fr n m st s
theorem pickQ {i j : Nat} {F : Fd} (h : T.fd.lookup i = some F) (hb : F.body = pickS j) (hN : F.N.length = 2) (Dr : DrawQ T fu k j key) : PickQ T fu (k + 1) i key := by
  intro st n m B x ds Dk hB hx h0 hz
  have hp : 0 < ds.length := List.length_pos_iff.mpr h0
  obtain ⟨d, s, e, r, rfl, r0, r1, D2, F2⟩ := (Dr st n m B ds.length Dk hB (by omega) (by omega)).ex
  rw [cf_succ h, hb, hN]
  show EnsR (ofSR (evSs _ _ [some (.loc n), some x] st)) _
  have hmk : (mkC T fu (callF T fu k)).ft = callF T fu k := rfl
  obtain ⟨d, hd, e2⟩ := atI_int r0 r1
  rcases hx with ⟨l, rfl, hl, n1, n2⟩ | rfl
  · have hl' := F2.get hl n1 n2
    simp only [pickS, evSs, evS, evE, evL, vGet, Res.bind, Res.then, SR.bind, ofO, bfD, List.getElem?_cons_zero, List.getElem?_cons_succ, lenD_loc hl, hmk, e, ixD_loc hl' e2, ofSR]
    exact ⟨hd, D2, F2⟩
  · have e3 : lenD [.tup ds] st = some (.int ds.length, st) := by simp [lenD]
    simp only [pickS, evSs, evS, evE, evL, vGet, Res.bind, Res.then, SR.bind, ofO, bfD, List.getElem?_cons_zero, List.getElem?_cons_succ, e3, hmk, e, ixD_tup e2, ofSR]
    exact ⟨hd, D2, F2⟩
/-- a pick out of a list that is new -/
theorem PickQ.new {i : Nat} (P : PickQ T fu k i key) {st : Sto} {n m : Nat} {B : Int} {ds : List D} (Dk : Dq key st n m (B + 1)) (hB : 0 ≤ B) (h0 : ds ≠ []) (hz : ds.length < 1000000) : EnsR (callF T fu k i [.loc n, .loc st.length] (st ++ [.lst ds])) fun d s => d ∈ ds ∧ Dq key s n m B ∧ Fr n m st s := by
  have l := Dk.lt
  refine (P (st ++ [.lst ds]) n m B (.loc st.length) ds Dk.app hB (.inl ⟨st.length, rfl, get_last rfl, by omega, by omega⟩) h0 hz).mono fun d s h => (show d ∈ ds ∧ Dq key s n m B ∧ Fr n m st s from ⟨h.1, h.2.1, Fr.app.trans h.2.2⟩)
theorem powQ {i : Nat} {F : Fd} (h : T.fd.lookup i = some F) (hb : F.body = powerS) (hN : F.N.length = 4) {b e : Int} {st : Sto} (h1 : b.natAbs < 2 ^ 32) (h2 : 0 ≤ e ∧ e ≤ 1000) : callF T fu (k + 1) i [.int b, .int e] (lv st) = .ok (.int (b ^ e.toNat)) (lv st) := by
  rw [cf_succ h, hb, hN]
  show ofSR (evSs _ _ [some (.int b), some (.int e), none, none] st) = _
  rw [power_ok h1 h2.1 h2.2]; rfl
theorem deckQ {i : Nat} {F : Fd} {c0 c1 c2 c3 c4 cap : Int} (h : T.fd.lookup i = some F) (hb : F.body = deckS key c0 c1 c2 c3 c4 cap) (hN : F.N.length = 3) (k1 : key ≠ "mixed") (k2 : key ≠ "draws") (h0 : Cn c0) (h1 : Cn c1) (h2 : Cn c2) (h3 : Cn c3) (h4 : Cn c4) {ns : List Int} {st : Sto} (hl : ns.length ≤ 1000) :
    EnsR (callF T fu (k + 1) i [.fz (ns.map D.int)] st) fun d s => ∃ n m, d = .loc n ∧ Dq key s n m (2 ^ 38) := by
  obtain ⟨n, m, s, e, D1⟩ := deck_ok (C := mkC T fu (callF T fu k)) (cap := cap) (st := st) (x := none) (y := none) k1 k2 h0 h1 h2 h3 h4 hl
  rw [cf_succ h, hb, hN]
  show EnsR (ofSR (evSs _ _ [some (.fz (ns.map D.int)), none, none] st)) _
  rw [e]
  exact ⟨n, m, rfl, 0, D1, by omega, by omega⟩
end
section
variable {key : Str} {st : Sto} {n m : Nat}
theorem len_app {more : Ob} : (st ++ [more])[st.length]? = some more := get_last rfl
theorem b_tuple {l : Nat} {ds : List D} (h : st[l]? = some (.lst ds)) : bfD .tuple [.loc l] (lv st) = some (.tup ds, lv st) := by simp [bfD, tupleD, seqD, lv, h]
theorem b_tupleA {ds : List D} : bfD .tuple [.loc st.length] (lv (st ++ [.lst ds])) = some (.tup ds, lv (st ++ [.lst ds])) := b_tuple len_app
/-- a comprehension of draws -/
theorem lc_draws {i : Nat} {T : Ev → Sto → Res Bool} {F : Ev → Sto → Res D} {env : Ev} {B c : Int} {len : Nat} {Pd : D → Prop} (hT : ∀ e s, T e s = .ok true s) (D0 : Dq key st n m (B + c * len)) (hB : 0 ≤ B) (hc : 0 ≤ c) (hl : len ≤ 99999)
    (step : ∀ (j : Nat) (s : Sto) (B2 : Int), j < len → Dq key s n m (B2 + c) → 0 ≤ B2 → Fr n m st s → EnsR (F (env.set i (some (.int (0 + (j : Int) * 1)))) (lv s)) fun y s2 => Pd y ∧ Dq key s2 n m B2 ∧ Fr n m s s2) :
    EnsR (lcEnd (itRng 0 1 len) (gT (.nm i)) T F env st) fun d s => ∃ ds, d = .loc st.length ∧ s[st.length]? = some (.lst ds) ∧ ds.length = len ∧ (∀ x ∈ ds, Pd x) ∧ Dq key s n m B ∧ Fr n m st s := by
  have lt := D0.lt
  refine n_lc (fun j acc s => acc.length = j ∧ (∀ x ∈ acc, Pd x) ∧ j ≤ len ∧ Dq key s n m (B + c * ((len : Int) - j)) ∧ Fr n m st s) ⟨rfl, by simp, Nat.zero_le _, by simpa using D0.app, Fr.app⟩ (fun j acc s hj h hl0 => ?_) (fun acc s h hl0 => ?_)
  · obtain ⟨h1, h2, h3, h4, h5⟩ := h
    have hj : j < len := hj
    have e1 : B + c * ((len : Int) - j) = (B + c * ((len : Int) - (j + 1 : Nat))) + c := by
      have : (len : Int) - j = ((len : Int) - (j + 1 : Nat)) + 1 := by omega
      rw [this, Int.mul_add, Int.mul_one]
      omega
    rw [e1] at h4
    have hb : 0 ≤ B + c * ((len : Int) - (j + 1 : Nat)) := by
      have : 0 ≤ c * ((len : Int) - (j + 1 : Nat)) := Int.mul_nonneg hc (by omega)
      omega
    refine ⟨.int (0 + (j : Int) * 1), env.set i (some (.int (0 + (j : Int) * 1))), rfl, g_nm, ?_⟩
    rw [hT]
    show EnsR (F _ s) _
    refine (step j s _ hj h4 hb h5).mono fun y s2 h6 => ?_
    obtain ⟨h7, h8, h9⟩ := h6
    have hl2 := h9.lenAt hl0 (by omega) (by omega)
    refine ⟨hl2, by omega, by rw [List.length_append, h1]; rfl, fun x hx => ?_, hj, h8.set (by omega) (by omega), (h5.trans h9).set (Nat.le_refl _)⟩
    rcases List.mem_append.mp hx with hx | hx
    · exact h2 x hx
    · rw [List.mem_singleton.mp hx]; exact h7
  · obtain ⟨h1, h2, h3, h4, h5⟩ := h
    refine ⟨rfl, acc, rfl, lenAt_of hl0, h1, h2, ?_, h5⟩
    have : (itRng 0 1 len).n = len := rfl
    rw [this, Int.sub_self, Int.mul_zero, Int.add_zero] at h4
    exact h4
/-- a comprehension that changes nothing -/
theorem lc_map {it : ItD} {g : D → Ev → Option Ev} {T : Ev → Sto → Res Bool} {F : Ev → Sto → Res D} {env : Ev} {x f : Nat → D} {e : Nat → Ev} (hT : ∀ e s, T e s = .ok true s) (hl : it.n ≤ 99999) (hi : ∀ j acc, j < it.n → it.item j (st ++ [.lst acc]) = some (x j)) (hf : ∀ acc, it.fin (st ++ [.lst acc]) = true) (hg : ∀ j, j < it.n → g (x j) env = some (e j))
    (hF : ∀ j acc, j < it.n → F (e j) (lv (st ++ [.lst acc])) = .ok (f j) (lv (st ++ [.lst acc]))) : lcEnd it g T F env (lv st) = .ok (.loc st.length) (lv (st ++ [.lst ((List.range it.n).map f)])) := by
  show lcEnd it g T F env st = .ok (.loc st.length) (st ++ [.lst ((List.range it.n).map f)])
  apply EnsR.eq
  refine n_lc (fun j acc s => j ≤ it.n ∧ acc = (List.range j).map f ∧ s = st ++ [.lst acc]) ⟨Nat.zero_le _, rfl, rfl⟩ (fun j acc s hj h hl0 => ?_) (fun acc s h hl0 => ?_)
  · obtain ⟨h1, h2, rfl⟩ := h
    refine ⟨x j, e j, hi j acc hj, hg j hj, ?_⟩
    rw [hT]
    show EnsR (F (e j) (lv (st ++ [.lst acc]))) _
    rw [hF j acc hj]
    refine ⟨hl0, by rw [h2, List.length_map, List.length_range]; omega, hj, by rw [h2, List.range_succ, List.map_append]; rfl, ?_⟩
    show List.set (st ++ [Ob.lst acc]) st.length _ = _
    rw [List.set_append_right _ _ (Nat.le_refl _), Nat.sub_self]
    rfl
  · obtain ⟨h1, rfl, rfl⟩ := h
    exact ⟨hf _, rfl, rfl⟩
theorem lc_rng {i len : Nat} {T : Ev → Sto → Res Bool} {F : Ev → Sto → Res D} {env : Ev} {f : Nat → D} (hT : ∀ e s, T e s = .ok true s) (hl : len ≤ 99999) (hF : ∀ (j : Nat) (acc : List D), j < len → F (env.set i (some (.int (0 + (j : Int) * 1)))) (lv (st ++ [.lst acc])) = .ok (f j) (lv (st ++ [.lst acc]))) :
    lcEnd (itRng 0 1 len) (gT (.nm i)) T F env (lv st) = .ok (.loc st.length) (lv (st ++ [.lst ((List.range len).map f)])) := lc_map (it := itRng 0 1 len) (x := fun j => .int (0 + (j : Int) * 1)) hT hl (fun _ _ _ => rfl) (fun _ => rfl) (fun _ _ => g_nm) hF
/-- over a tuple -/
theorem lc_tup {i : Nat} {T : Ev → Sto → Res Bool} {F : Ev → Sto → Res D} {env : Ev} {ds : List D} {f : D → D} (hT : ∀ e s, T e s = .ok true s) (hl : ds.length ≤ 99999) (hF : ∀ (d : D) (acc : List D), d ∈ ds → F (env.set i (some d)) (lv (st ++ [.lst acc])) = .ok (f d) (lv (st ++ [.lst acc]))) :
    lcEnd (itTup ds) (gT (.nm i)) T F env (lv st) = .ok (.loc st.length) (lv (st ++ [.lst (ds.map f)])) := by
  have h := lc_map (st := st) (it := itTup ds) (g := gT (.nm i)) (T := T) (F := F) (env := env) (x := fun j => ds.getD j .non) (f := fun j => f (ds.getD j .non)) (e := fun j => env.set i (some (ds.getD j .non))) hT hl (fun j _ hj => by
    have hj : j < ds.length := hj
    simp [itTup, hj]) (fun _ => rfl) (fun _ _ => g_nm) (fun j acc hj => hF _ acc (by
    have hj : j < ds.length := hj
    simp [hj]))
  rw [h]
  have e : (List.range (itTup ds).n).map (fun j => f (ds.getD j .non)) = ds.map f := by
    apply List.ext_getElem
    · simp [itTup]
    · intro j h1 h2
      have hj : j < ds.length := by simpa using h2
      simp [hj]
  rw [e]
end
section
variable {st : Sto} {l : Nat} {ds : List D} {d : D}
theorem is_l (h : st[l]? = some (.lst ds)) : isL (.loc l) (lv st) = true := by simp [isL, lv, h]
theorem m_app (h : st[l]? = some (.lst ds)) (hl : ds.length ≤ 99999) : mtD .append (.loc l) [d] (lv st) = some (.non, lv (st.set l (.lst (ds ++ [d])))) := by
  show appD (.loc l) [d] st = _
  rw [appD_ok h (by omega)]; rfl
theorem set_last {more : Sto} {o o' : Ob} : (more ++ [o]).set more.length o' = more ++ [o'] := by
  rw [List.set_append_right _ _ (Nat.le_refl _), Nat.sub_self]; rfl
theorem rev_loc (h : st[l]? = some (.lst ds)) : rev2D (.loc l) (lv st) = some (.loc st.length, lv (st ++ [.lst ds.reverse])) := by simp [rev2D, revD, lv, h]
theorem i_loc (h : st[l]? = some (.lst ds)) : itD (.loc l) (lv st) = .ok (itLoc l ds.length) (lv st) := by
  have : lenAt l st = some ds := by simp [lenAt, h]
  simp [itD, lv, this]
theorem b_lenL (h : st[l]? = some (.lst ds)) : bfD .len [.loc l] (lv st) = some (.int ds.length, lv st) := by simp [bfD, lenD, lv, h]
theorem x_loc {i : Int} (h : st[l]? = some (.lst ds)) (e : atI ds i = some d) : ixD (.loc l) (.int i) (lv st) = some (d, lv st) := ixD_loc (st := lv st) h e
end
end Q
end

section
set_option Elab.async false
set_option linter.all false
set_option maxRecDepth 100000
set_option maxHeartbeats 4000000
set_option autoImplicit false
/-! The program's functions. -/
namespace Q
open PySem L2
/-- the kind of a value is known -/
def Kd' (d : D) (st : Sto) : Prop := ∃ k, kdD d st = some k
theorem Kd'.nx {d : D} {st : Sto} (h : Kd' d st) : nx d = true := by
  obtain ⟨k, h⟩ := h
  cases d <;> first
    | rfl
    | cases h
def isI : D → Bool
  | .int _ => true
  | _ => false
def isTupN (n : Nat) : D → Bool
  | .tup ds => decide (ds.length = n)
  | _ => false
section
variable {T : PT} (P : Pg T) {fu n : Nat} {st : Sto} {d : D}
include P
theorem is_integer_e (h : Kd' d st) : callF T fu (n + 1) 0 [d] (lv st) = .ok (.bl (isI d)) (lv st) := by
  obtain ⟨k, hk⟩ := h
  have hx : nx d = true := Kd'.nx ⟨k, hk⟩
  have hi : ∀ t, isiD [t] d (lv st) = some (.bl (kdIs k t), lv st) := fun t => by simp [isiD, lv, hk]
  have hb : (kdIs k .int && !kdIs k .bool) = isI d := by
    cases d <;> simp only [kdD, Option.some.injEq, reduceCtorEq] at hk <;> first
      | (subst hk; rfl)
      | (split at hk <;> first | (cases hk; rfl) | cases hk)
  rw [c_in (P 0 _ rfl)]
  simp only [evAll0, evAll1, evAll2, evAll3, evAll4, evAll5, evAll6, Bool.not_true, Bool.not_false, decide_true, decide_false, mk_ft, Option.map_some, List.cons_append, List.nil_append, env0, List.map_cons, List.map_nil, List.length_cons, List.length_nil, List.reduceReplicate, Nat.reduceAdd, Nat.reduceSub, Nat.zero_add, List.append_nil, Nat.reduceLeDiff, Int.reduceEq, Int.reduceLT, Int.reduceLE, Int.reduceGT, Int.reduceGE, Int.reduceNe, i_tup, f_is_integer, b_f_is_integer, hx, hi]
  rw [← hb]
  cases h1 : kdIs k .int
  · simp only [evAll0, evAll1, evAll2, evAll3, evAll4, evAll5, evAll6, Bool.not_true, Bool.not_false, decide_true, decide_false, mk_ft, Option.map_some, List.cons_append, List.nil_append, env0, List.map_cons, List.map_nil, List.length_cons, List.length_nil, List.reduceReplicate, Nat.reduceAdd, Nat.reduceSub, Nat.zero_add, List.append_nil, Nat.reduceLeDiff, Int.reduceEq, Int.reduceLT, Int.reduceLE, Int.reduceGT, Int.reduceGE, Int.reduceNe, i_tup, Bool.false_and]
  · simp only [evAll0, evAll1, evAll2, evAll3, evAll4, evAll5, evAll6, Bool.not_true, Bool.not_false, decide_true, decide_false, mk_ft, Option.map_some, List.cons_append, List.nil_append, env0, List.map_cons, List.map_nil, List.length_cons, List.length_nil, List.reduceReplicate, Nat.reduceAdd, Nat.reduceSub, Nat.zero_add, List.append_nil, Nat.reduceLeDiff, Int.reduceEq, Int.reduceLT, Int.reduceLE, Int.reduceGT, Int.reduceGE, Int.reduceNe, i_tup, hx, hi, Bool.true_and]
theorem is_natural_e (h : Kd' d st) : callF T fu (n + 2) 1 [d] (lv st) = .ok (.bl (match d with | .int i => decide (0 ≤ i) | _ => false)) (lv st) := by
  rw [c_in (P 1 _ rfl)]
  simp only [evAll0, evAll1, evAll2, evAll3, evAll4, evAll5, evAll6, Bool.not_true, Bool.not_false, decide_true, decide_false, mk_ft, Option.map_some, List.cons_append, List.nil_append, env0, List.map_cons, List.map_nil, List.length_cons, List.length_nil, List.reduceReplicate, Nat.reduceAdd, Nat.reduceSub, Nat.zero_add, List.append_nil, Nat.reduceLeDiff, Int.reduceEq, Int.reduceLT, Int.reduceLE, Int.reduceGT, Int.reduceGE, Int.reduceNe, i_tup, f_is_natural, b_f_is_natural, h.nx, is_integer_e P h]
  cases d <;> first
    | rfl
    | (simp only [evAll0, evAll1, evAll2, evAll3, evAll4, evAll5, evAll6, Bool.not_true, Bool.not_false, decide_true, decide_false, mk_ft, Option.map_some, List.cons_append, List.nil_append, env0, List.map_cons, List.map_nil, List.length_cons, List.length_nil, List.reduceReplicate, Nat.reduceAdd, Nat.reduceSub, Nat.zero_add, List.append_nil, Nat.reduceLeDiff, Int.reduceEq, Int.reduceLT, Int.reduceLE, Int.reduceGT, Int.reduceGE, Int.reduceNe, i_tup, isI]; rfl)
theorem is_pair_e (h : Kd' d st) : callF T fu (n + 1) 2 [d] (lv st) = .ok (.bl (isTupN 2 d)) (lv st) := by
  obtain ⟨k, hk⟩ := h
  have hx : nx d = true := Kd'.nx ⟨k, hk⟩
  have hi : ∀ t, isiD [t] d (lv st) = some (.bl (kdIs k t), lv st) := fun t => by simp [isiD, lv, hk]
  rw [c_in (P 2 _ rfl)]
  simp only [evAll0, evAll1, evAll2, evAll3, evAll4, evAll5, evAll6, Bool.not_true, Bool.not_false, decide_true, decide_false, mk_ft, Option.map_some, List.cons_append, List.nil_append, env0, List.map_cons, List.map_nil, List.length_cons, List.length_nil, List.reduceReplicate, Nat.reduceAdd, Nat.reduceSub, Nat.zero_add, List.append_nil, Nat.reduceLeDiff, Int.reduceEq, Int.reduceLT, Int.reduceLE, Int.reduceGT, Int.reduceGE, Int.reduceNe, i_tup, f_is_pair, b_f_is_pair, hx, hi]
  cases d <;> simp only [kdD, Option.some.injEq, reduceCtorEq] at hk <;> first
    | (subst hk; rfl)
    | (subst hk; simp only [evAll0, evAll1, evAll2, evAll3, evAll4, evAll5, evAll6, Bool.not_true, Bool.not_false, decide_true, decide_false, mk_ft, Option.map_some, List.cons_append, List.nil_append, env0, List.map_cons, List.map_nil, List.length_cons, List.length_nil, List.reduceReplicate, Nat.reduceAdd, Nat.reduceSub, Nat.zero_add, List.append_nil, Nat.reduceLeDiff, Int.reduceEq, Int.reduceLT, Int.reduceLE, Int.reduceGT, Int.reduceGE, Int.reduceNe, i_tup, kdIs, isTupN]; norm_cast; done)
    | (split at hk <;> first | (cases hk; rfl) | cases hk)
    | skip
theorem is_triple_e (h : Kd' d st) : callF T fu (n + 1) 3 [d] (lv st) = .ok (.bl (isTupN 3 d)) (lv st) := by
  obtain ⟨k, hk⟩ := h
  have hx : nx d = true := Kd'.nx ⟨k, hk⟩
  have hi : ∀ t, isiD [t] d (lv st) = some (.bl (kdIs k t), lv st) := fun t => by simp [isiD, lv, hk]
  rw [c_in (P 3 _ rfl)]
  simp only [evAll0, evAll1, evAll2, evAll3, evAll4, evAll5, evAll6, Bool.not_true, Bool.not_false, decide_true, decide_false, mk_ft, Option.map_some, List.cons_append, List.nil_append, env0, List.map_cons, List.map_nil, List.length_cons, List.length_nil, List.reduceReplicate, Nat.reduceAdd, Nat.reduceSub, Nat.zero_add, List.append_nil, Nat.reduceLeDiff, Int.reduceEq, Int.reduceLT, Int.reduceLE, Int.reduceGT, Int.reduceGE, Int.reduceNe, i_tup, f_is_triple, b_f_is_triple, hx, hi]
  cases d <;> simp only [kdD, Option.some.injEq, reduceCtorEq] at hk <;> first
    | (subst hk; rfl)
    | (subst hk; simp only [evAll0, evAll1, evAll2, evAll3, evAll4, evAll5, evAll6, Bool.not_true, Bool.not_false, decide_true, decide_false, mk_ft, Option.map_some, List.cons_append, List.nil_append, env0, List.map_cons, List.map_nil, List.length_cons, List.length_nil, List.reduceReplicate, Nat.reduceAdd, Nat.reduceSub, Nat.zero_add, List.append_nil, Nat.reduceLeDiff, Int.reduceEq, Int.reduceLT, Int.reduceLE, Int.reduceGT, Int.reduceGE, Int.reduceNe, i_tup, kdIs, isTupN]; norm_cast; done)
    | (split at hk <;> first | (cases hk; rfl) | cases hk)
    | skip
/-- kinds known to some depth -/
def Kn : Nat → D → Sto → Prop
  | 0, d, st => Kd' d st
  | n + 1, d, st => Kd' d st ∧ ∀ ds, d = .tup ds → ∀ x ∈ ds, Kn n x st
omit P in
theorem Kn.kd : ∀ {n : Nat} {d : D} {st : Sto}, Kn n d st → Kd' d st
  | 0, _, _, h => h
  | _ + 1, _, _, h => h.1
omit P in
theorem Kn.nx {n : Nat} {d : D} {st : Sto} (h : Kn n d st) : nx d = true := h.kd.nx
omit P in
theorem Kn.item {n : Nat} {ds : List D} {st : Sto} (h : Kn (n + 1) (.tup ds) st) {x : D} (hx : x ∈ ds) : Kn n x st := h.2 ds rfl x hx
omit P in
theorem isTupN_two (h : isTupN 2 d = true) : ∃ x y, d = .tup [x, y] := by
  cases d with
  | tup ds =>
    simp only [isTupN, decide_eq_true_eq] at h
    match ds, h with
    | [x, y], _ => exact ⟨x, y, rfl⟩
  | _ => simp [isTupN] at h
omit P in
theorem isTupN_three (h : isTupN 3 d = true) : ∃ x y z, d = .tup [x, y, z] := by
  cases d with
  | tup ds =>
    simp only [isTupN, decide_eq_true_eq] at h
    match ds, h with
    | [x, y, z], _ => exact ⟨x, y, z, rfl⟩
  | _ => simp [isTupN] at h
def isSchB : D → Bool
  | .tup [.int k, .int a] => decide (1 ≤ k) && decide (k ≤ 3) && (decide (2 ^ k.toNat / 2 ≤ a) && decide (a ≤ 2 ^ k.toNat - 1))
  | _ => false
abbrev sch (k a : Int) : D := .tup [.int k, .int a]
structure Sc (k a : Int) : Prop where
  k1 : 1 ≤ k
  k3 : k ≤ 3
  lo : 2 ^ k.toNat / 2 ≤ a
  hi : a ≤ 2 ^ k.toNat - 1
omit P in
theorem isI_ex (h : isI d = true) : ∃ i, d = .int i := by
  cases d <;> simp [isI] at h
  exact ⟨_, rfl⟩
omit P in
theorem bits_small {i : Int} (h : i.natAbs < 2 ^ 64) : bits i < 64 := bits_lt h (by omega)
theorem radix_e {k : Int} {r : List D} (h1 : 0 ≤ k) (h3 : k ≤ 1000) : callF T fu (n + 1) 6 [.tup (.int k :: r)] (lv st) = .ok (.int (2 ^ k.toNat)) (lv st) := by
  rw [c_in (P 6 _ rfl)]
  simp only [evAll0, evAll1, evAll2, evAll3, evAll4, evAll5, evAll6, Bool.not_true, Bool.not_false, decide_true, decide_false, mk_ft, Option.map_some, List.cons_append, List.nil_append, env0, List.map_cons, List.map_nil, List.length_cons, List.length_nil, List.reduceReplicate, Nat.reduceAdd, Nat.reduceSub, Nat.zero_add, List.append_nil, Nat.reduceLeDiff, Int.reduceEq, Int.reduceLT, Int.reduceLE, Int.reduceGT, Int.reduceGE, Int.reduceNe, i_tup, f_radix, b_f_radix, p_shl (i := 1) (j := k) (st := st) ⟨h1, by omega, by decide⟩, Int.one_mul]
theorem is_scheme_e (h : Kn 1 d st) : callF T fu (n + 2) 4 [d] (lv st) = .ok (.bl (isSchB d)) (lv st) := by
  rw [c_in (P 4 _ rfl)]
  simp only [evAll0, evAll1, evAll2, evAll3, evAll4, evAll5, evAll6, Bool.not_true, Bool.not_false, decide_true, decide_false, mk_ft, Option.map_some, List.cons_append, List.nil_append, env0, List.map_cons, List.map_nil, List.length_cons, List.length_nil, List.reduceReplicate, Nat.reduceAdd, Nat.reduceSub, Nat.zero_add, List.append_nil, Nat.reduceLeDiff, Int.reduceEq, Int.reduceLT, Int.reduceLE, Int.reduceGT, Int.reduceGE, Int.reduceNe, i_tup, f_is_scheme, b_f_is_scheme, h.nx, is_pair_e P h.kd]
  cases hp : isTupN 2 d with
  | false =>
    simp only [evAll0, evAll1, evAll2, evAll3, evAll4, evAll5, evAll6, Bool.not_true, Bool.not_false, decide_true, decide_false, mk_ft, Option.map_some, List.cons_append, List.nil_append, env0, List.map_cons, List.map_nil, List.length_cons, List.length_nil, List.reduceReplicate, Nat.reduceAdd, Nat.reduceSub, Nat.zero_add, List.append_nil, Nat.reduceLeDiff, Int.reduceEq, Int.reduceLT, Int.reduceLE, Int.reduceGT, Int.reduceGE, Int.reduceNe, i_tup]
    cases d with
    | tup ds =>
      match ds, hp with
      | [], _ => rfl
      | [x], _ => cases x <;> rfl
      | [x, y], hp => cases hp
      | x :: y :: z :: r, _ => cases x <;> cases y <;> rfl
    | _ => rfl
  | true =>
    obtain ⟨x, y, rfl⟩ := isTupN_two hp
    have hx : Kn 0 x st := h.item (by simp)
    have hy : Kn 0 y st := h.item (by simp)
    simp only [evAll0, evAll1, evAll2, evAll3, evAll4, evAll5, evAll6, Bool.not_true, Bool.not_false, decide_true, decide_false, mk_ft, Option.map_some, List.cons_append, List.nil_append, env0, List.map_cons, List.map_nil, List.length_cons, List.length_nil, List.reduceReplicate, Nat.reduceAdd, Nat.reduceSub, Nat.zero_add, List.append_nil, Nat.reduceLeDiff, Int.reduceEq, Int.reduceLT, Int.reduceLE, Int.reduceGT, Int.reduceGE, Int.reduceNe, i_tup, hx.nx, hy.nx, is_integer_e P hx.kd]
    cases hi : isI x with
    | false =>
      simp only [evAll0, evAll1, evAll2, evAll3, evAll4, evAll5, evAll6, Bool.not_true, Bool.not_false, decide_true, decide_false, mk_ft, Option.map_some, List.cons_append, List.nil_append, env0, List.map_cons, List.map_nil, List.length_cons, List.length_nil, List.reduceReplicate, Nat.reduceAdd, Nat.reduceSub, Nat.zero_add, List.append_nil, Nat.reduceLeDiff, Int.reduceEq, Int.reduceLT, Int.reduceLE, Int.reduceGT, Int.reduceGE, Int.reduceNe, i_tup]
      cases x <;> first | rfl | cases hi
    | true =>
      obtain ⟨k, rfl⟩ := isI_ex hi
      simp only [evAll0, evAll1, evAll2, evAll3, evAll4, evAll5, evAll6, Bool.not_true, Bool.not_false, decide_true, decide_false, mk_ft, Option.map_some, List.cons_append, List.nil_append, env0, List.map_cons, List.map_nil, List.length_cons, List.length_nil, List.reduceReplicate, Nat.reduceAdd, Nat.reduceSub, Nat.zero_add, List.append_nil, Nat.reduceLeDiff, Int.reduceEq, Int.reduceLT, Int.reduceLE, Int.reduceGT, Int.reduceGE, Int.reduceNe, i_tup, hy.nx, is_integer_e P hy.kd]
      cases hj : isI y with
      | false =>
        simp only [evAll0, evAll1, evAll2, evAll3, evAll4, evAll5, evAll6, Bool.not_true, Bool.not_false, decide_true, decide_false, mk_ft, Option.map_some, List.cons_append, List.nil_append, env0, List.map_cons, List.map_nil, List.length_cons, List.length_nil, List.reduceReplicate, Nat.reduceAdd, Nat.reduceSub, Nat.zero_add, List.append_nil, Nat.reduceLeDiff, Int.reduceEq, Int.reduceLT, Int.reduceLE, Int.reduceGT, Int.reduceGE, Int.reduceNe, i_tup]
        cases y <;> first | rfl | cases hj
      | true =>
        obtain ⟨a, rfl⟩ := isI_ex hj
        simp only [evAll0, evAll1, evAll2, evAll3, evAll4, evAll5, evAll6, Bool.not_true, Bool.not_false, decide_true, decide_false, mk_ft, Option.map_some, List.cons_append, List.nil_append, env0, List.map_cons, List.map_nil, List.length_cons, List.length_nil, List.reduceReplicate, Nat.reduceAdd, Nat.reduceSub, Nat.zero_add, List.append_nil, Nat.reduceLeDiff, Int.reduceEq, Int.reduceLT, Int.reduceLE, Int.reduceGT, Int.reduceGE, Int.reduceNe, i_tup]
        by_cases h1 : 1 ≤ k
        · by_cases h3 : k ≤ 3
          · simp only [evAll0, evAll1, evAll2, evAll3, evAll4, evAll5, evAll6, Bool.not_true, Bool.not_false, decide_true, decide_false, mk_ft, Option.map_some, List.cons_append, List.nil_append, env0, List.map_cons, List.map_nil, List.length_cons, List.length_nil, List.reduceReplicate, Nat.reduceAdd, Nat.reduceSub, Nat.zero_add, List.append_nil, Nat.reduceLeDiff, Int.reduceEq, Int.reduceLT, Int.reduceLE, Int.reduceGT, Int.reduceGE, Int.reduceNe, i_tup, h1, h3, radix_e P (show 0 ≤ k by omega) (show k ≤ 1000 by omega), p_fdiv (i := 2 ^ k.toNat) (j := 2) (st := st) ⟨by decide, by decide⟩, isSchB, Bool.true_and]
            by_cases h5 : (2 : Int) ^ k.toNat / 2 ≤ a
            · simp only [evAll0, evAll1, evAll2, evAll3, evAll4, evAll5, evAll6, Bool.not_true, Bool.not_false, decide_true, decide_false, mk_ft, Option.map_some, List.cons_append, List.nil_append, env0, List.map_cons, List.map_nil, List.length_cons, List.length_nil, List.reduceReplicate, Nat.reduceAdd, Nat.reduceSub, Nat.zero_add, List.append_nil, Nat.reduceLeDiff, Int.reduceEq, Int.reduceLT, Int.reduceLE, Int.reduceGT, Int.reduceGE, Int.reduceNe, i_tup, h5, Bool.true_and, radix_e P (st := st) (show 0 ≤ k by omega) (show k ≤ 1000 by omega)]
            · simp only [evAll0, evAll1, evAll2, evAll3, evAll4, evAll5, evAll6, Bool.not_true, Bool.not_false, decide_true, decide_false, mk_ft, Option.map_some, List.cons_append, List.nil_append, env0, List.map_cons, List.map_nil, List.length_cons, List.length_nil, List.reduceReplicate, Nat.reduceAdd, Nat.reduceSub, Nat.zero_add, List.append_nil, Nat.reduceLeDiff, Int.reduceEq, Int.reduceLT, Int.reduceLE, Int.reduceGT, Int.reduceGE, Int.reduceNe, i_tup, h5, Bool.false_and]
          · simp only [evAll0, evAll1, evAll2, evAll3, evAll4, evAll5, evAll6, Bool.not_true, Bool.not_false, decide_true, decide_false, mk_ft, Option.map_some, List.cons_append, List.nil_append, env0, List.map_cons, List.map_nil, List.length_cons, List.length_nil, List.reduceReplicate, Nat.reduceAdd, Nat.reduceSub, Nat.zero_add, List.append_nil, Nat.reduceLeDiff, Int.reduceEq, Int.reduceLT, Int.reduceLE, Int.reduceGT, Int.reduceGE, Int.reduceNe, i_tup, h1, h3, isSchB, Bool.and_false, Bool.false_and]
        · simp only [evAll0, evAll1, evAll2, evAll3, evAll4, evAll5, evAll6, Bool.not_true, Bool.not_false, decide_true, decide_false, mk_ft, Option.map_some, List.cons_append, List.nil_append, env0, List.map_cons, List.map_nil, List.length_cons, List.length_nil, List.reduceReplicate, Nat.reduceAdd, Nat.reduceSub, Nat.zero_add, List.append_nil, Nat.reduceLeDiff, Int.reduceEq, Int.reduceLT, Int.reduceLE, Int.reduceGT, Int.reduceGE, Int.reduceNe, i_tup, h1, isSchB, Bool.false_and]
omit P in
theorem Sc.isB {k a : Int} (h : Sc k a) : isSchB (sch k a) = true := by
  simp [isSchB, h.k1, h.k3, h.lo, h.hi]
omit P in
theorem kn_sch {k a : Int} (m : Nat) : Kn m (sch k a) st := by
  have hi : ∀ (m : Nat) (i : Int), Kn m (.int i) st := fun m i => by
    cases m with
    | zero => exact ⟨_, rfl⟩
    | succ m => exact ⟨⟨_, rfl⟩, fun ds e => by cases e⟩
  cases m with
  | zero => exact ⟨_, rfl⟩
  | succ m => exact ⟨⟨_, rfl⟩, fun ds e x hx => by
      cases e
      simp only [List.mem_cons, List.not_mem_nil, or_false] at hx
      rcases hx with rfl | rfl <;> exact hi _ _⟩
theorem need_scheme_e {k a : Int} (h : Sc k a) : callF T fu (n + 3) 5 [sch k a] (lv st) = .ok .non (lv st) := by
  rw [c_in (P 5 _ rfl)]
  simp only [evAll0, evAll1, evAll2, evAll3, evAll4, evAll5, evAll6, Bool.not_true, Bool.not_false, decide_true, decide_false, mk_ft, Option.map_some, List.cons_append, List.nil_append, env0, List.map_cons, List.map_nil, List.length_cons, List.length_nil, List.reduceReplicate, Nat.reduceAdd, Nat.reduceSub, Nat.zero_add, List.append_nil, Nat.reduceLeDiff, Int.reduceEq, Int.reduceLT, Int.reduceLE, Int.reduceGT, Int.reduceGE, Int.reduceNe, i_tup, f_need_scheme, b_f_need_scheme, is_scheme_e P (kn_sch (k := k) (a := a) (st := st) 1), h.isB]
theorem need_scheme_x (h : Kn 1 d st) (hb : isSchB d = false) : callF T fu (n + 3) 5 [d] (lv st) = .exc 0 d (lv st) := by
  rw [c_in (P 5 _ rfl)]
  simp only [evAll0, evAll1, evAll2, evAll3, evAll4, evAll5, evAll6, Bool.not_true, Bool.not_false, decide_true, decide_false, mk_ft, Option.map_some, List.cons_append, List.nil_append, env0, List.map_cons, List.map_nil, List.length_cons, List.length_nil, List.reduceReplicate, Nat.reduceAdd, Nat.reduceSub, Nat.zero_add, List.append_nil, Nat.reduceLeDiff, Int.reduceEq, Int.reduceLT, Int.reduceLE, Int.reduceGT, Int.reduceGE, Int.reduceNe, i_tup, f_need_scheme, b_f_need_scheme, h.nx, is_scheme_e P h, hb]
/-- a digit, among any values -/
def isDigB (a : Int) : D → Bool
  | .int i => decide ((i.natAbs : Int) ≤ a)
  | _ => false
theorem is_digit_e {k a : Int} (h : Kd' d st) : callF T fu (n + 2) 7 [sch k a, d] (lv st) = .ok (.bl (isDigB a d)) (lv st) := by
  rw [c_in (P 7 _ rfl)]
  simp only [evAll0, evAll1, evAll2, evAll3, evAll4, evAll5, evAll6, Bool.not_true, Bool.not_false, decide_true, decide_false, mk_ft, Option.map_some, List.cons_append, List.nil_append, env0, List.map_cons, List.map_nil, List.length_cons, List.length_nil, List.reduceReplicate, Nat.reduceAdd, Nat.reduceSub, Nat.zero_add, List.append_nil, Nat.reduceLeDiff, Int.reduceEq, Int.reduceLT, Int.reduceLE, Int.reduceGT, Int.reduceGE, Int.reduceNe, i_tup, f_is_digit, b_f_is_digit, h.nx, is_integer_e P h]
  cases d <;> first
    | rfl
    | (simp only [evAll0, evAll1, evAll2, evAll3, evAll4, evAll5, evAll6, Bool.not_true, Bool.not_false, decide_true, decide_false, mk_ft, Option.map_some, List.cons_append, List.nil_append, env0, List.map_cons, List.map_nil, List.length_cons, List.length_nil, List.reduceReplicate, Nat.reduceAdd, Nat.reduceSub, Nat.zero_add, List.append_nil, Nat.reduceLeDiff, Int.reduceEq, Int.reduceLT, Int.reduceLE, Int.reduceGT, Int.reduceGE, Int.reduceNe, i_tup, isI, isDigB]; done)
def isStrB (a : Int) : D → Bool
  | .tup ds => ds.all (isDigB a)
  | _ => false
theorem is_string_e {k a : Int} (h : Kn 1 d st) : callF T fu (n + 3) 8 [sch k a, d] (lv st) = .ok (.bl (isStrB a d)) (lv st) := by
  obtain ⟨kk, hk⟩ := h.kd
  have hi : ∀ t, isiD [t] d (lv st) = some (.bl (kdIs kk t), lv st) := fun t => by simp [isiD, lv, hk]
  rw [c_in (P 8 _ rfl)]
  simp only [evAll0, evAll1, evAll2, evAll3, evAll4, evAll5, evAll6, Bool.not_true, Bool.not_false, decide_true, decide_false, mk_ft, Option.map_some, List.cons_append, List.nil_append, env0, List.map_cons, List.map_nil, List.length_cons, List.length_nil, List.reduceReplicate, Nat.reduceAdd, Nat.reduceSub, Nat.zero_add, List.append_nil, Nat.reduceLeDiff, Int.reduceEq, Int.reduceLT, Int.reduceLE, Int.reduceGT, Int.reduceGE, Int.reduceNe, i_tup, f_is_string, b_f_is_string, h.nx, hi]
  cases d with
  | tup ds =>
    cases hk
    simp only [evAll0, evAll1, evAll2, evAll3, evAll4, evAll5, evAll6, Bool.not_true, Bool.not_false, decide_true, decide_false, mk_ft, Option.map_some, List.cons_append, List.nil_append, env0, List.map_cons, List.map_nil, List.length_cons, List.length_nil, List.reduceReplicate, Nat.reduceAdd, Nat.reduceSub, Nat.zero_add, List.append_nil, Nat.reduceLeDiff, Int.reduceEq, Int.reduceLT, Int.reduceLE, Int.reduceGT, Int.reduceGE, Int.reduceNe, i_tup, kdIs, e_all, i_tup]
    rw [allS_tup (p := isDigB a) (fun d hd => by simp only [evAll0, evAll1, evAll2, evAll3, evAll4, evAll5, evAll6, Bool.not_true, Bool.not_false, decide_true, decide_false, mk_ft, Option.map_some, List.cons_append, List.nil_append, env0, List.map_cons, List.map_nil, List.length_cons, List.length_nil, List.reduceReplicate, Nat.reduceAdd, Nat.reduceSub, Nat.zero_add, List.append_nil, Nat.reduceLeDiff, Int.reduceEq, Int.reduceLT, Int.reduceLE, Int.reduceGT, Int.reduceGE, Int.reduceNe, i_tup, (h.item hd).nx, is_digit_e P (h.item hd).kd])]
    simp only [evAll0, evAll1, evAll2, evAll3, evAll4, evAll5, evAll6, Bool.not_true, Bool.not_false, decide_true, decide_false, mk_ft, Option.map_some, List.cons_append, List.nil_append, env0, List.map_cons, List.map_nil, List.length_cons, List.length_nil, List.reduceReplicate, Nat.reduceAdd, Nat.reduceSub, Nat.zero_add, List.append_nil, Nat.reduceLeDiff, Int.reduceEq, Int.reduceLT, Int.reduceLE, Int.reduceGT, Int.reduceGE, Int.reduceNe, i_tup, isStrB]
  | loc l =>
    simp only [kdD] at hk
    split at hk <;> first | (cases hk; rfl) | cases hk
  | exo l => cases hk
  | _ => cases hk; rfl
theorem need_string_e {k a : Int} (h : Kn 1 d st) (hs : isStrB a d = true) : callF T fu (n + 4) 9 [sch k a, d] (lv st) = .ok .non (lv st) := by
  rw [c_in (P 9 _ rfl)]
  simp only [evAll0, evAll1, evAll2, evAll3, evAll4, evAll5, evAll6, Bool.not_true, Bool.not_false, decide_true, decide_false, mk_ft, Option.map_some, List.cons_append, List.nil_append, env0, List.map_cons, List.map_nil, List.length_cons, List.length_nil, List.reduceReplicate, Nat.reduceAdd, Nat.reduceSub, Nat.zero_add, List.append_nil, Nat.reduceLeDiff, Int.reduceEq, Int.reduceLT, Int.reduceLE, Int.reduceGT, Int.reduceGE, Int.reduceNe, i_tup, f_need_string, b_f_need_string, h.nx, is_string_e P (k := k) (a := a) h, hs]
theorem need_string_x {k a : Int} (h : Kn 1 d st) (hs : isStrB a d = false) : callF T fu (n + 4) 9 [sch k a, d] (lv st) = .exc 1 d (lv st) := by
  rw [c_in (P 9 _ rfl)]
  simp only [evAll0, evAll1, evAll2, evAll3, evAll4, evAll5, evAll6, Bool.not_true, Bool.not_false, decide_true, decide_false, mk_ft, Option.map_some, List.cons_append, List.nil_append, env0, List.map_cons, List.map_nil, List.length_cons, List.length_nil, List.reduceReplicate, Nat.reduceAdd, Nat.reduceSub, Nat.zero_add, List.append_nil, Nat.reduceLeDiff, Int.reduceEq, Int.reduceLT, Int.reduceLE, Int.reduceGT, Int.reduceGE, Int.reduceNe, i_tup, f_need_string, b_f_need_string, h.nx, is_string_e P (k := k) (a := a) h, hs]
/-- the registers after a digit -/
def afterD (k : Int) (A B : List D) (q : Int) : D := .tup [.tup (if 0 ≤ q then A ++ [.int q] else B ++ [.int (2 ^ k.toNat + q)]), .tup (if 0 < q then A ++ [.int (q - 1)] else B ++ [.int (2 ^ k.toNat - 1 + q)])]
theorem after_e {k a q : Int} {A B : List D} (h1 : 0 ≤ k) (h3 : k ≤ 1000) (hA : A.length ≤ 1000) (hB : B.length ≤ 1000) : callF T fu (n + 2) 22 [sch k a, .tup [.tup A, .tup B], .int q] (lv st) = .ok (afterD k A B q) (lv st) := by
  have eA : ∀ x : D, (A ++ [x]).length ≤ 100000 := fun x => by rw [List.length_append]; show A.length + 1 ≤ _; omega
  have eB : ∀ x : D, (B ++ [x]).length ≤ 100000 := fun x => by rw [List.length_append]; show B.length + 1 ≤ _; omega
  rw [c_in (P 22 _ rfl)]
  simp only [evAll0, evAll1, evAll2, evAll3, evAll4, evAll5, evAll6, Bool.not_true, Bool.not_false, decide_true, decide_false, mk_ft, Option.map_some, List.cons_append, List.nil_append, env0, List.map_cons, List.map_nil, List.length_cons, List.length_nil, List.reduceReplicate, Nat.reduceAdd, Nat.reduceSub, Nat.zero_add, List.append_nil, Nat.reduceLeDiff, Int.reduceEq, Int.reduceLT, Int.reduceLE, Int.reduceGT, Int.reduceGE, Int.reduceNe, i_tup, f_after, b_f_after, radix_e P h1 h3, afterD]
  by_cases c1 : 0 ≤ q
  · simp only [evAll0, evAll1, evAll2, evAll3, evAll4, evAll5, evAll6, Bool.not_true, Bool.not_false, decide_true, decide_false, mk_ft, Option.map_some, List.cons_append, List.nil_append, env0, List.map_cons, List.map_nil, List.length_cons, List.length_nil, List.reduceReplicate, Nat.reduceAdd, Nat.reduceSub, Nat.zero_add, List.append_nil, Nat.reduceLeDiff, Int.reduceEq, Int.reduceLT, Int.reduceLE, Int.reduceGT, Int.reduceGE, Int.reduceNe, i_tup, c1, ge_iff_le, if_true, st_tup (eA _)]
    by_cases c2 : 0 < q
    · simp only [evAll0, evAll1, evAll2, evAll3, evAll4, evAll5, evAll6, Bool.not_true, Bool.not_false, decide_true, decide_false, mk_ft, Option.map_some, List.cons_append, List.nil_append, env0, List.map_cons, List.map_nil, List.length_cons, List.length_nil, List.reduceReplicate, Nat.reduceAdd, Nat.reduceSub, Nat.zero_add, List.append_nil, Nat.reduceLeDiff, Int.reduceEq, Int.reduceLT, Int.reduceLE, Int.reduceGT, Int.reduceGE, Int.reduceNe, i_tup, c2, gt_iff_lt, if_true, st_tup (eA _)]
    · simp only [evAll0, evAll1, evAll2, evAll3, evAll4, evAll5, evAll6, Bool.not_true, Bool.not_false, decide_true, decide_false, mk_ft, Option.map_some, List.cons_append, List.nil_append, env0, List.map_cons, List.map_nil, List.length_cons, List.length_nil, List.reduceReplicate, Nat.reduceAdd, Nat.reduceSub, Nat.zero_add, List.append_nil, Nat.reduceLeDiff, Int.reduceEq, Int.reduceLT, Int.reduceLE, Int.reduceGT, Int.reduceGE, Int.reduceNe, i_tup, c2, gt_iff_lt, if_false, st_tup (eB _)]
  · have c2 : ¬ 0 < q := by omega
    simp only [evAll0, evAll1, evAll2, evAll3, evAll4, evAll5, evAll6, Bool.not_true, Bool.not_false, decide_true, decide_false, mk_ft, Option.map_some, List.cons_append, List.nil_append, env0, List.map_cons, List.map_nil, List.length_cons, List.length_nil, List.reduceReplicate, Nat.reduceAdd, Nat.reduceSub, Nat.zero_add, List.append_nil, Nat.reduceLeDiff, Int.reduceEq, Int.reduceLT, Int.reduceLE, Int.reduceGT, Int.reduceGE, Int.reduceNe, i_tup, c1, c2, ge_iff_le, gt_iff_lt, if_false, st_tup (eB _)]
/-- a tuple of ordinary digits -/
def isOrdB (k : Int) : D → Bool
  | .tup ds => ds.all fun d => match d with
    | .int i => decide (0 ≤ i) && decide (i < 2 ^ k.toNat)
    | _ => false
  | _ => false
theorem is_ordinary_e {k a : Int} (h1 : 0 ≤ k) (h3 : k ≤ 1000) (h : Kn 1 d st) : callF T fu (n + 2) 21 [sch k a, d] (lv st) = .ok (.bl (isOrdB k d)) (lv st) := by
  obtain ⟨kk, hk⟩ := h.kd
  have hi : ∀ t, isiD [t] d (lv st) = some (.bl (kdIs kk t), lv st) := fun t => by simp [isiD, lv, hk]
  rw [c_in (P 21 _ rfl)]
  simp only [evAll0, evAll1, evAll2, evAll3, evAll4, evAll5, evAll6, Bool.not_true, Bool.not_false, decide_true, decide_false, mk_ft, Option.map_some, List.cons_append, List.nil_append, env0, List.map_cons, List.map_nil, List.length_cons, List.length_nil, List.reduceReplicate, Nat.reduceAdd, Nat.reduceSub, Nat.zero_add, List.append_nil, Nat.reduceLeDiff, Int.reduceEq, Int.reduceLT, Int.reduceLE, Int.reduceGT, Int.reduceGE, Int.reduceNe, i_tup, f_is_ordinary, b_f_is_ordinary, h.nx, hi]
  cases d with
  | tup ds =>
    cases hk
    simp only [evAll0, evAll1, evAll2, evAll3, evAll4, evAll5, evAll6, Bool.not_true, Bool.not_false, decide_true, decide_false, mk_ft, Option.map_some, List.cons_append, List.nil_append, env0, List.map_cons, List.map_nil, List.length_cons, List.length_nil, List.reduceReplicate, Nat.reduceAdd, Nat.reduceSub, Nat.zero_add, List.append_nil, Nat.reduceLeDiff, Int.reduceEq, Int.reduceLT, Int.reduceLE, Int.reduceGT, Int.reduceGE, Int.reduceNe, i_tup, kdIs, e_all, i_tup]
    rw [allS_tup (p := fun d => match d with | .int i => decide (0 ≤ i) && decide (i < 2 ^ k.toNat) | _ => false) (fun d hd => by
      simp only [evAll0, evAll1, evAll2, evAll3, evAll4, evAll5, evAll6, Bool.not_true, Bool.not_false, decide_true, decide_false, mk_ft, Option.map_some, List.cons_append, List.nil_append, env0, List.map_cons, List.map_nil, List.length_cons, List.length_nil, List.reduceReplicate, Nat.reduceAdd, Nat.reduceSub, Nat.zero_add, List.append_nil, Nat.reduceLeDiff, Int.reduceEq, Int.reduceLT, Int.reduceLE, Int.reduceGT, Int.reduceGE, Int.reduceNe, i_tup, (h.item hd).nx, is_integer_e P (h.item hd).kd]
      cases d with
      | int i =>
        simp only [evAll0, evAll1, evAll2, evAll3, evAll4, evAll5, evAll6, Bool.not_true, Bool.not_false, decide_true, decide_false, mk_ft, Option.map_some, List.cons_append, List.nil_append, env0, List.map_cons, List.map_nil, List.length_cons, List.length_nil, List.reduceReplicate, Nat.reduceAdd, Nat.reduceSub, Nat.zero_add, List.append_nil, Nat.reduceLeDiff, Int.reduceEq, Int.reduceLT, Int.reduceLE, Int.reduceGT, Int.reduceGE, Int.reduceNe, i_tup, isI, radix_e P h1 h3]
        by_cases c : 0 ≤ i
        · simp only [evAll0, evAll1, evAll2, evAll3, evAll4, evAll5, evAll6, Bool.not_true, Bool.not_false, decide_true, decide_false, mk_ft, Option.map_some, List.cons_append, List.nil_append, env0, List.map_cons, List.map_nil, List.length_cons, List.length_nil, List.reduceReplicate, Nat.reduceAdd, Nat.reduceSub, Nat.zero_add, List.append_nil, Nat.reduceLeDiff, Int.reduceEq, Int.reduceLT, Int.reduceLE, Int.reduceGT, Int.reduceGE, Int.reduceNe, i_tup, c, Bool.true_and, radix_e P (st := st) h1 h3]
        · simp only [evAll0, evAll1, evAll2, evAll3, evAll4, evAll5, evAll6, Bool.not_true, Bool.not_false, decide_true, decide_false, mk_ft, Option.map_some, List.cons_append, List.nil_append, env0, List.map_cons, List.map_nil, List.length_cons, List.length_nil, List.reduceReplicate, Nat.reduceAdd, Nat.reduceSub, Nat.zero_add, List.append_nil, Nat.reduceLeDiff, Int.reduceEq, Int.reduceLT, Int.reduceLE, Int.reduceGT, Int.reduceGE, Int.reduceNe, i_tup, c, Bool.false_and]
      | _ => rfl)]
    simp only [evAll0, evAll1, evAll2, evAll3, evAll4, evAll5, evAll6, Bool.not_true, Bool.not_false, decide_true, decide_false, mk_ft, Option.map_some, List.cons_append, List.nil_append, env0, List.map_cons, List.map_nil, List.length_cons, List.length_nil, List.reduceReplicate, Nat.reduceAdd, Nat.reduceSub, Nat.zero_add, List.append_nil, Nat.reduceLeDiff, Int.reduceEq, Int.reduceLT, Int.reduceLE, Int.reduceGT, Int.reduceGE, Int.reduceNe, i_tup, isOrdB]
  | loc l =>
    simp only [kdD] at hk
    split at hk <;> first | (cases hk; rfl) | cases hk
  | exo l => cases hk
  | _ => cases hk; rfl
def isRegB (k : Int) : D → Bool
  | .tup [.tup A, .tup B] => isOrdB k (.tup A) && (isOrdB k (.tup B) && decide (A.length = B.length))
  | _ => false
theorem is_reg_e {k a : Int} (h1 : 0 ≤ k) (h3 : k ≤ 1000) (h : Kn 2 d st) : callF T fu (n + 3) 20 [sch k a, d] (lv st) = .ok (.bl (isRegB k d)) (lv st) := by
  rw [c_in (P 20 _ rfl)]
  simp only [evAll0, evAll1, evAll2, evAll3, evAll4, evAll5, evAll6, Bool.not_true, Bool.not_false, decide_true, decide_false, mk_ft, Option.map_some, List.cons_append, List.nil_append, env0, List.map_cons, List.map_nil, List.length_cons, List.length_nil, List.reduceReplicate, Nat.reduceAdd, Nat.reduceSub, Nat.zero_add, List.append_nil, Nat.reduceLeDiff, Int.reduceEq, Int.reduceLT, Int.reduceLE, Int.reduceGT, Int.reduceGE, Int.reduceNe, i_tup, f_is_pair_of_ordinary, b_f_is_pair_of_ordinary, h.nx, is_pair_e P h.kd]
  cases hp : isTupN 2 d with
  | false =>
    simp only [evAll0, evAll1, evAll2, evAll3, evAll4, evAll5, evAll6, Bool.not_true, Bool.not_false, decide_true, decide_false, mk_ft, Option.map_some, List.cons_append, List.nil_append, env0, List.map_cons, List.map_nil, List.length_cons, List.length_nil, List.reduceReplicate, Nat.reduceAdd, Nat.reduceSub, Nat.zero_add, List.append_nil, Nat.reduceLeDiff, Int.reduceEq, Int.reduceLT, Int.reduceLE, Int.reduceGT, Int.reduceGE, Int.reduceNe, i_tup]
    cases d with
    | tup ds =>
      match ds, hp with
      | [], _ => rfl
      | [x], _ => cases x <;> rfl
      | [x, y], hp => cases hp
      | x :: y :: z :: r, _ => cases x <;> cases y <;> rfl
    | _ => rfl
  | true =>
    obtain ⟨x, y, rfl⟩ := isTupN_two hp
    have hx : Kn 1 x st := h.item (by simp)
    have hy : Kn 1 y st := h.item (by simp)
    simp only [evAll0, evAll1, evAll2, evAll3, evAll4, evAll5, evAll6, Bool.not_true, Bool.not_false, decide_true, decide_false, mk_ft, Option.map_some, List.cons_append, List.nil_append, env0, List.map_cons, List.map_nil, List.length_cons, List.length_nil, List.reduceReplicate, Nat.reduceAdd, Nat.reduceSub, Nat.zero_add, List.append_nil, Nat.reduceLeDiff, Int.reduceEq, Int.reduceLT, Int.reduceLE, Int.reduceGT, Int.reduceGE, Int.reduceNe, i_tup, hx.nx, hy.nx, is_ordinary_e P (a := a) h1 h3 hx]
    cases hi : isOrdB k x with
    | false =>
      simp only [evAll0, evAll1, evAll2, evAll3, evAll4, evAll5, evAll6, Bool.not_true, Bool.not_false, decide_true, decide_false, mk_ft, Option.map_some, List.cons_append, List.nil_append, env0, List.map_cons, List.map_nil, List.length_cons, List.length_nil, List.reduceReplicate, Nat.reduceAdd, Nat.reduceSub, Nat.zero_add, List.append_nil, Nat.reduceLeDiff, Int.reduceEq, Int.reduceLT, Int.reduceLE, Int.reduceGT, Int.reduceGE, Int.reduceNe, i_tup]
      cases x <;> cases y <;> first | rfl | (simp [isRegB, hi])
    | true =>
      simp only [evAll0, evAll1, evAll2, evAll3, evAll4, evAll5, evAll6, Bool.not_true, Bool.not_false, decide_true, decide_false, mk_ft, Option.map_some, List.cons_append, List.nil_append, env0, List.map_cons, List.map_nil, List.length_cons, List.length_nil, List.reduceReplicate, Nat.reduceAdd, Nat.reduceSub, Nat.zero_add, List.append_nil, Nat.reduceLeDiff, Int.reduceEq, Int.reduceLT, Int.reduceLE, Int.reduceGT, Int.reduceGE, Int.reduceNe, i_tup, hx.nx, hy.nx, is_ordinary_e P (a := a) h1 h3 hy]
      cases hj : isOrdB k y with
      | false =>
        simp only [evAll0, evAll1, evAll2, evAll3, evAll4, evAll5, evAll6, Bool.not_true, Bool.not_false, decide_true, decide_false, mk_ft, Option.map_some, List.cons_append, List.nil_append, env0, List.map_cons, List.map_nil, List.length_cons, List.length_nil, List.reduceReplicate, Nat.reduceAdd, Nat.reduceSub, Nat.zero_add, List.append_nil, Nat.reduceLeDiff, Int.reduceEq, Int.reduceLT, Int.reduceLE, Int.reduceGT, Int.reduceGE, Int.reduceNe, i_tup]
        cases x <;> cases y <;> first | rfl | (simp [isRegB, hj])
      | true =>
        cases x <;> first | cases hi | skip
        cases y <;> first | cases hj | skip
        rename_i A B
        have hl : decide ((A.length : Int) = (B.length : Int)) = decide (A.length = B.length) := by
          by_cases c : A.length = B.length
          · simp [c]
          · have : ¬ ((A.length : Int) = B.length) := by omega
            simp [c, this]
        simp only [evAll0, evAll1, evAll2, evAll3, evAll4, evAll5, evAll6, Bool.not_true, Bool.not_false, decide_true, decide_false, mk_ft, Option.map_some, List.cons_append, List.nil_append, env0, List.map_cons, List.map_nil, List.length_cons, List.length_nil, List.reduceReplicate, Nat.reduceAdd, Nat.reduceSub, Nat.zero_add, List.append_nil, Nat.reduceLeDiff, Int.reduceEq, Int.reduceLT, Int.reduceLE, Int.reduceGT, Int.reduceGE, Int.reduceNe, i_tup, isRegB, hi, hj, Bool.true_and, hl]
theorem appended_e {k a q : Int} {A B : List D} (h : Sc k a) (hr : isRegB k (.tup [.tup A, .tup B]) = true) (hq : (q.natAbs : Int) ≤ a) (hk : Kn 2 (.tup [.tup A, .tup B]) st) (hA : A.length ≤ 1000) (hB : B.length ≤ 1000) : callF T fu (n + 4) 19 [sch k a, .tup [.tup A, .tup B], .int q] (lv st) = .ok (afterD k A B q) (lv st) := by
  have h1 : 0 ≤ k := by have := h.k1; omega
  have h3 : k ≤ 1000 := by have := h.k3; omega
  have hd : isDigB a (.int q) = true := by simp [isDigB, hq]
  rw [c_in (P 19 _ rfl)]
  simp only [evAll0, evAll1, evAll2, evAll3, evAll4, evAll5, evAll6, Bool.not_true, Bool.not_false, decide_true, decide_false, mk_ft, Option.map_some, List.cons_append, List.nil_append, env0, List.map_cons, List.map_nil, List.length_cons, List.length_nil, List.reduceReplicate, Nat.reduceAdd, Nat.reduceSub, Nat.zero_add, List.append_nil, Nat.reduceLeDiff, Int.reduceEq, Int.reduceLT, Int.reduceLE, Int.reduceGT, Int.reduceGE, Int.reduceNe, i_tup, f_appended, b_f_appended, need_scheme_e P h, is_reg_e P (a := a) h1 h3 hk, hr, is_digit_e P (k := k) (a := a) (d := .int q) (st := st) ⟨_, rfl⟩, hd, after_e P (a := a) h1 h3 hA hB]
end
end Q
end

section
set_option linter.all false
namespace Q
theorem exL1 {α : Type} {xs : List α} (h : xs.length = 1) : ∃ x0, xs = [x0] := by
  match xs, h with
  | [x0], _ => exact ⟨x0, rfl⟩
theorem exL2 {α : Type} {xs : List α} (h : xs.length = 2) : ∃ x0 x1, xs = [x0, x1] := by
  cases xs with
  | nil => cases h
  | cons x0 xs =>
    obtain ⟨x1, rfl⟩ := exL1 (Nat.succ.inj h)
    exact ⟨x0, x1, rfl⟩
theorem exL3 {α : Type} {xs : List α} (h : xs.length = 3) : ∃ x0 x1 x2, xs = [x0, x1, x2] := by
  cases xs with
  | nil => cases h
  | cons x0 xs =>
    obtain ⟨x1, x2, rfl⟩ := exL2 (Nat.succ.inj h)
    exact ⟨x0, x1, x2, rfl⟩
theorem exL4 {α : Type} {xs : List α} (h : xs.length = 4) : ∃ x0 x1 x2 x3, xs = [x0, x1, x2, x3] := by
  cases xs with
  | nil => cases h
  | cons x0 xs =>
    obtain ⟨x1, x2, x3, rfl⟩ := exL3 (Nat.succ.inj h)
    exact ⟨x0, x1, x2, x3, rfl⟩
theorem exL5 {α : Type} {xs : List α} (h : xs.length = 5) : ∃ x0 x1 x2 x3 x4, xs = [x0, x1, x2, x3, x4] := by
  cases xs with
  | nil => cases h
  | cons x0 xs =>
    obtain ⟨x1, x2, x3, x4, rfl⟩ := exL4 (Nat.succ.inj h)
    exact ⟨x0, x1, x2, x3, x4, rfl⟩
theorem exL6 {α : Type} {xs : List α} (h : xs.length = 6) : ∃ x0 x1 x2 x3 x4 x5, xs = [x0, x1, x2, x3, x4, x5] := by
  cases xs with
  | nil => cases h
  | cons x0 xs =>
    obtain ⟨x1, x2, x3, x4, x5, rfl⟩ := exL5 (Nat.succ.inj h)
    exact ⟨x0, x1, x2, x3, x4, x5, rfl⟩
theorem exL7 {α : Type} {xs : List α} (h : xs.length = 7) : ∃ x0 x1 x2 x3 x4 x5 x6, xs = [x0, x1, x2, x3, x4, x5, x6] := by
  cases xs with
  | nil => cases h
  | cons x0 xs =>
    obtain ⟨x1, x2, x3, x4, x5, x6, rfl⟩ := exL6 (Nat.succ.inj h)
    exact ⟨x0, x1, x2, x3, x4, x5, x6, rfl⟩
theorem exL8 {α : Type} {xs : List α} (h : xs.length = 8) : ∃ x0 x1 x2 x3 x4 x5 x6 x7, xs = [x0, x1, x2, x3, x4, x5, x6, x7] := by
  cases xs with
  | nil => cases h
  | cons x0 xs =>
    obtain ⟨x1, x2, x3, x4, x5, x6, x7, rfl⟩ := exL7 (Nat.succ.inj h)
    exact ⟨x0, x1, x2, x3, x4, x5, x6, x7, rfl⟩
theorem exL9 {α : Type} {xs : List α} (h : xs.length = 9) : ∃ x0 x1 x2 x3 x4 x5 x6 x7 x8, xs = [x0, x1, x2, x3, x4, x5, x6, x7, x8] := by
  cases xs with
  | nil => cases h
  | cons x0 xs =>
    obtain ⟨x1, x2, x3, x4, x5, x6, x7, x8, rfl⟩ := exL8 (Nat.succ.inj h)
    exact ⟨x0, x1, x2, x3, x4, x5, x6, x7, x8, rfl⟩
theorem exL10 {α : Type} {xs : List α} (h : xs.length = 10) : ∃ x0 x1 x2 x3 x4 x5 x6 x7 x8 x9, xs = [x0, x1, x2, x3, x4, x5, x6, x7, x8, x9] := by
  cases xs with
  | nil => cases h
  | cons x0 xs =>
    obtain ⟨x1, x2, x3, x4, x5, x6, x7, x8, x9, rfl⟩ := exL9 (Nat.succ.inj h)
    exact ⟨x0, x1, x2, x3, x4, x5, x6, x7, x8, x9, rfl⟩
theorem exL11 {α : Type} {xs : List α} (h : xs.length = 11) : ∃ x0 x1 x2 x3 x4 x5 x6 x7 x8 x9 x10, xs = [x0, x1, x2, x3, x4, x5, x6, x7, x8, x9, x10] := by
  cases xs with
  | nil => cases h
  | cons x0 xs =>
    obtain ⟨x1, x2, x3, x4, x5, x6, x7, x8, x9, x10, rfl⟩ := exL10 (Nat.succ.inj h)
    exact ⟨x0, x1, x2, x3, x4, x5, x6, x7, x8, x9, x10, rfl⟩
theorem exL12 {α : Type} {xs : List α} (h : xs.length = 12) : ∃ x0 x1 x2 x3 x4 x5 x6 x7 x8 x9 x10 x11, xs = [x0, x1, x2, x3, x4, x5, x6, x7, x8, x9, x10, x11] := by
  cases xs with
  | nil => cases h
  | cons x0 xs =>
    obtain ⟨x1, x2, x3, x4, x5, x6, x7, x8, x9, x10, x11, rfl⟩ := exL11 (Nat.succ.inj h)
    exact ⟨x0, x1, x2, x3, x4, x5, x6, x7, x8, x9, x10, x11, rfl⟩
theorem exL13 {α : Type} {xs : List α} (h : xs.length = 13) : ∃ x0 x1 x2 x3 x4 x5 x6 x7 x8 x9 x10 x11 x12, xs = [x0, x1, x2, x3, x4, x5, x6, x7, x8, x9, x10, x11, x12] := by
  cases xs with
  | nil => cases h
  | cons x0 xs =>
    obtain ⟨x1, x2, x3, x4, x5, x6, x7, x8, x9, x10, x11, x12, rfl⟩ := exL12 (Nat.succ.inj h)
    exact ⟨x0, x1, x2, x3, x4, x5, x6, x7, x8, x9, x10, x11, x12, rfl⟩
theorem exL14 {α : Type} {xs : List α} (h : xs.length = 14) : ∃ x0 x1 x2 x3 x4 x5 x6 x7 x8 x9 x10 x11 x12 x13, xs = [x0, x1, x2, x3, x4, x5, x6, x7, x8, x9, x10, x11, x12, x13] := by
  cases xs with
  | nil => cases h
  | cons x0 xs =>
    obtain ⟨x1, x2, x3, x4, x5, x6, x7, x8, x9, x10, x11, x12, x13, rfl⟩ := exL13 (Nat.succ.inj h)
    exact ⟨x0, x1, x2, x3, x4, x5, x6, x7, x8, x9, x10, x11, x12, x13, rfl⟩
theorem exL15 {α : Type} {xs : List α} (h : xs.length = 15) : ∃ x0 x1 x2 x3 x4 x5 x6 x7 x8 x9 x10 x11 x12 x13 x14, xs = [x0, x1, x2, x3, x4, x5, x6, x7, x8, x9, x10, x11, x12, x13, x14] := by
  cases xs with
  | nil => cases h
  | cons x0 xs =>
    obtain ⟨x1, x2, x3, x4, x5, x6, x7, x8, x9, x10, x11, x12, x13, x14, rfl⟩ := exL14 (Nat.succ.inj h)
    exact ⟨x0, x1, x2, x3, x4, x5, x6, x7, x8, x9, x10, x11, x12, x13, x14, rfl⟩
theorem exL16 {α : Type} {xs : List α} (h : xs.length = 16) : ∃ x0 x1 x2 x3 x4 x5 x6 x7 x8 x9 x10 x11 x12 x13 x14 x15, xs = [x0, x1, x2, x3, x4, x5, x6, x7, x8, x9, x10, x11, x12, x13, x14, x15] := by
  cases xs with
  | nil => cases h
  | cons x0 xs =>
    obtain ⟨x1, x2, x3, x4, x5, x6, x7, x8, x9, x10, x11, x12, x13, x14, x15, rfl⟩ := exL15 (Nat.succ.inj h)
    exact ⟨x0, x1, x2, x3, x4, x5, x6, x7, x8, x9, x10, x11, x12, x13, x14, x15, rfl⟩
theorem exL17 {α : Type} {xs : List α} (h : xs.length = 17) : ∃ x0 x1 x2 x3 x4 x5 x6 x7 x8 x9 x10 x11 x12 x13 x14 x15 x16, xs = [x0, x1, x2, x3, x4, x5, x6, x7, x8, x9, x10, x11, x12, x13, x14, x15, x16] := by
  cases xs with
  | nil => cases h
  | cons x0 xs =>
    obtain ⟨x1, x2, x3, x4, x5, x6, x7, x8, x9, x10, x11, x12, x13, x14, x15, x16, rfl⟩ := exL16 (Nat.succ.inj h)
    exact ⟨x0, x1, x2, x3, x4, x5, x6, x7, x8, x9, x10, x11, x12, x13, x14, x15, x16, rfl⟩
theorem exL18 {α : Type} {xs : List α} (h : xs.length = 18) : ∃ x0 x1 x2 x3 x4 x5 x6 x7 x8 x9 x10 x11 x12 x13 x14 x15 x16 x17, xs = [x0, x1, x2, x3, x4, x5, x6, x7, x8, x9, x10, x11, x12, x13, x14, x15, x16, x17] := by
  cases xs with
  | nil => cases h
  | cons x0 xs =>
    obtain ⟨x1, x2, x3, x4, x5, x6, x7, x8, x9, x10, x11, x12, x13, x14, x15, x16, x17, rfl⟩ := exL17 (Nat.succ.inj h)
    exact ⟨x0, x1, x2, x3, x4, x5, x6, x7, x8, x9, x10, x11, x12, x13, x14, x15, x16, x17, rfl⟩
theorem exL19 {α : Type} {xs : List α} (h : xs.length = 19) : ∃ x0 x1 x2 x3 x4 x5 x6 x7 x8 x9 x10 x11 x12 x13 x14 x15 x16 x17 x18, xs = [x0, x1, x2, x3, x4, x5, x6, x7, x8, x9, x10, x11, x12, x13, x14, x15, x16, x17, x18] := by
  cases xs with
  | nil => cases h
  | cons x0 xs =>
    obtain ⟨x1, x2, x3, x4, x5, x6, x7, x8, x9, x10, x11, x12, x13, x14, x15, x16, x17, x18, rfl⟩ := exL18 (Nat.succ.inj h)
    exact ⟨x0, x1, x2, x3, x4, x5, x6, x7, x8, x9, x10, x11, x12, x13, x14, x15, x16, x17, x18, rfl⟩
theorem exL20 {α : Type} {xs : List α} (h : xs.length = 20) : ∃ x0 x1 x2 x3 x4 x5 x6 x7 x8 x9 x10 x11 x12 x13 x14 x15 x16 x17 x18 x19, xs = [x0, x1, x2, x3, x4, x5, x6, x7, x8, x9, x10, x11, x12, x13, x14, x15, x16, x17, x18, x19] := by
  cases xs with
  | nil => cases h
  | cons x0 xs =>
    obtain ⟨x1, x2, x3, x4, x5, x6, x7, x8, x9, x10, x11, x12, x13, x14, x15, x16, x17, x18, x19, rfl⟩ := exL19 (Nat.succ.inj h)
    exact ⟨x0, x1, x2, x3, x4, x5, x6, x7, x8, x9, x10, x11, x12, x13, x14, x15, x16, x17, x18, x19, rfl⟩
theorem exL21 {α : Type} {xs : List α} (h : xs.length = 21) : ∃ x0 x1 x2 x3 x4 x5 x6 x7 x8 x9 x10 x11 x12 x13 x14 x15 x16 x17 x18 x19 x20, xs = [x0, x1, x2, x3, x4, x5, x6, x7, x8, x9, x10, x11, x12, x13, x14, x15, x16, x17, x18, x19, x20] := by
  cases xs with
  | nil => cases h
  | cons x0 xs =>
    obtain ⟨x1, x2, x3, x4, x5, x6, x7, x8, x9, x10, x11, x12, x13, x14, x15, x16, x17, x18, x19, x20, rfl⟩ := exL20 (Nat.succ.inj h)
    exact ⟨x0, x1, x2, x3, x4, x5, x6, x7, x8, x9, x10, x11, x12, x13, x14, x15, x16, x17, x18, x19, x20, rfl⟩
theorem exL22 {α : Type} {xs : List α} (h : xs.length = 22) : ∃ x0 x1 x2 x3 x4 x5 x6 x7 x8 x9 x10 x11 x12 x13 x14 x15 x16 x17 x18 x19 x20 x21, xs = [x0, x1, x2, x3, x4, x5, x6, x7, x8, x9, x10, x11, x12, x13, x14, x15, x16, x17, x18, x19, x20, x21] := by
  cases xs with
  | nil => cases h
  | cons x0 xs =>
    obtain ⟨x1, x2, x3, x4, x5, x6, x7, x8, x9, x10, x11, x12, x13, x14, x15, x16, x17, x18, x19, x20, x21, rfl⟩ := exL21 (Nat.succ.inj h)
    exact ⟨x0, x1, x2, x3, x4, x5, x6, x7, x8, x9, x10, x11, x12, x13, x14, x15, x16, x17, x18, x19, x20, x21, rfl⟩
theorem exL23 {α : Type} {xs : List α} (h : xs.length = 23) : ∃ x0 x1 x2 x3 x4 x5 x6 x7 x8 x9 x10 x11 x12 x13 x14 x15 x16 x17 x18 x19 x20 x21 x22, xs = [x0, x1, x2, x3, x4, x5, x6, x7, x8, x9, x10, x11, x12, x13, x14, x15, x16, x17, x18, x19, x20, x21, x22] := by
  cases xs with
  | nil => cases h
  | cons x0 xs =>
    obtain ⟨x1, x2, x3, x4, x5, x6, x7, x8, x9, x10, x11, x12, x13, x14, x15, x16, x17, x18, x19, x20, x21, x22, rfl⟩ := exL22 (Nat.succ.inj h)
    exact ⟨x0, x1, x2, x3, x4, x5, x6, x7, x8, x9, x10, x11, x12, x13, x14, x15, x16, x17, x18, x19, x20, x21, x22, rfl⟩
theorem exL24 {α : Type} {xs : List α} (h : xs.length = 24) : ∃ x0 x1 x2 x3 x4 x5 x6 x7 x8 x9 x10 x11 x12 x13 x14 x15 x16 x17 x18 x19 x20 x21 x22 x23, xs = [x0, x1, x2, x3, x4, x5, x6, x7, x8, x9, x10, x11, x12, x13, x14, x15, x16, x17, x18, x19, x20, x21, x22, x23] := by
  cases xs with
  | nil => cases h
  | cons x0 xs =>
    obtain ⟨x1, x2, x3, x4, x5, x6, x7, x8, x9, x10, x11, x12, x13, x14, x15, x16, x17, x18, x19, x20, x21, x22, x23, rfl⟩ := exL23 (Nat.succ.inj h)
    exact ⟨x0, x1, x2, x3, x4, x5, x6, x7, x8, x9, x10, x11, x12, x13, x14, x15, x16, x17, x18, x19, x20, x21, x22, x23, rfl⟩
theorem exL25 {α : Type} {xs : List α} (h : xs.length = 25) : ∃ x0 x1 x2 x3 x4 x5 x6 x7 x8 x9 x10 x11 x12 x13 x14 x15 x16 x17 x18 x19 x20 x21 x22 x23 x24, xs = [x0, x1, x2, x3, x4, x5, x6, x7, x8, x9, x10, x11, x12, x13, x14, x15, x16, x17, x18, x19, x20, x21, x22, x23, x24] := by
  cases xs with
  | nil => cases h
  | cons x0 xs =>
    obtain ⟨x1, x2, x3, x4, x5, x6, x7, x8, x9, x10, x11, x12, x13, x14, x15, x16, x17, x18, x19, x20, x21, x22, x23, x24, rfl⟩ := exL24 (Nat.succ.inj h)
    exact ⟨x0, x1, x2, x3, x4, x5, x6, x7, x8, x9, x10, x11, x12, x13, x14, x15, x16, x17, x18, x19, x20, x21, x22, x23, x24, rfl⟩
theorem exL26 {α : Type} {xs : List α} (h : xs.length = 26) : ∃ x0 x1 x2 x3 x4 x5 x6 x7 x8 x9 x10 x11 x12 x13 x14 x15 x16 x17 x18 x19 x20 x21 x22 x23 x24 x25, xs = [x0, x1, x2, x3, x4, x5, x6, x7, x8, x9, x10, x11, x12, x13, x14, x15, x16, x17, x18, x19, x20, x21, x22, x23, x24, x25] := by
  cases xs with
  | nil => cases h
  | cons x0 xs =>
    obtain ⟨x1, x2, x3, x4, x5, x6, x7, x8, x9, x10, x11, x12, x13, x14, x15, x16, x17, x18, x19, x20, x21, x22, x23, x24, x25, rfl⟩ := exL25 (Nat.succ.inj h)
    exact ⟨x0, x1, x2, x3, x4, x5, x6, x7, x8, x9, x10, x11, x12, x13, x14, x15, x16, x17, x18, x19, x20, x21, x22, x23, x24, x25, rfl⟩
theorem exL27 {α : Type} {xs : List α} (h : xs.length = 27) : ∃ x0 x1 x2 x3 x4 x5 x6 x7 x8 x9 x10 x11 x12 x13 x14 x15 x16 x17 x18 x19 x20 x21 x22 x23 x24 x25 x26, xs = [x0, x1, x2, x3, x4, x5, x6, x7, x8, x9, x10, x11, x12, x13, x14, x15, x16, x17, x18, x19, x20, x21, x22, x23, x24, x25, x26] := by
  cases xs with
  | nil => cases h
  | cons x0 xs =>
    obtain ⟨x1, x2, x3, x4, x5, x6, x7, x8, x9, x10, x11, x12, x13, x14, x15, x16, x17, x18, x19, x20, x21, x22, x23, x24, x25, x26, rfl⟩ := exL26 (Nat.succ.inj h)
    exact ⟨x0, x1, x2, x3, x4, x5, x6, x7, x8, x9, x10, x11, x12, x13, x14, x15, x16, x17, x18, x19, x20, x21, x22, x23, x24, x25, x26, rfl⟩
theorem exL28 {α : Type} {xs : List α} (h : xs.length = 28) : ∃ x0 x1 x2 x3 x4 x5 x6 x7 x8 x9 x10 x11 x12 x13 x14 x15 x16 x17 x18 x19 x20 x21 x22 x23 x24 x25 x26 x27, xs = [x0, x1, x2, x3, x4, x5, x6, x7, x8, x9, x10, x11, x12, x13, x14, x15, x16, x17, x18, x19, x20, x21, x22, x23, x24, x25, x26, x27] := by
  cases xs with
  | nil => cases h
  | cons x0 xs =>
    obtain ⟨x1, x2, x3, x4, x5, x6, x7, x8, x9, x10, x11, x12, x13, x14, x15, x16, x17, x18, x19, x20, x21, x22, x23, x24, x25, x26, x27, rfl⟩ := exL27 (Nat.succ.inj h)
    exact ⟨x0, x1, x2, x3, x4, x5, x6, x7, x8, x9, x10, x11, x12, x13, x14, x15, x16, x17, x18, x19, x20, x21, x22, x23, x24, x25, x26, x27, rfl⟩
theorem exL29 {α : Type} {xs : List α} (h : xs.length = 29) : ∃ x0 x1 x2 x3 x4 x5 x6 x7 x8 x9 x10 x11 x12 x13 x14 x15 x16 x17 x18 x19 x20 x21 x22 x23 x24 x25 x26 x27 x28, xs = [x0, x1, x2, x3, x4, x5, x6, x7, x8, x9, x10, x11, x12, x13, x14, x15, x16, x17, x18, x19, x20, x21, x22, x23, x24, x25, x26, x27, x28] := by
  cases xs with
  | nil => cases h
  | cons x0 xs =>
    obtain ⟨x1, x2, x3, x4, x5, x6, x7, x8, x9, x10, x11, x12, x13, x14, x15, x16, x17, x18, x19, x20, x21, x22, x23, x24, x25, x26, x27, x28, rfl⟩ := exL28 (Nat.succ.inj h)
    exact ⟨x0, x1, x2, x3, x4, x5, x6, x7, x8, x9, x10, x11, x12, x13, x14, x15, x16, x17, x18, x19, x20, x21, x22, x23, x24, x25, x26, x27, x28, rfl⟩
theorem exL30 {α : Type} {xs : List α} (h : xs.length = 30) : ∃ x0 x1 x2 x3 x4 x5 x6 x7 x8 x9 x10 x11 x12 x13 x14 x15 x16 x17 x18 x19 x20 x21 x22 x23 x24 x25 x26 x27 x28 x29, xs = [x0, x1, x2, x3, x4, x5, x6, x7, x8, x9, x10, x11, x12, x13, x14, x15, x16, x17, x18, x19, x20, x21, x22, x23, x24, x25, x26, x27, x28, x29] := by
  cases xs with
  | nil => cases h
  | cons x0 xs =>
    obtain ⟨x1, x2, x3, x4, x5, x6, x7, x8, x9, x10, x11, x12, x13, x14, x15, x16, x17, x18, x19, x20, x21, x22, x23, x24, x25, x26, x27, x28, x29, rfl⟩ := exL29 (Nat.succ.inj h)
    exact ⟨x0, x1, x2, x3, x4, x5, x6, x7, x8, x9, x10, x11, x12, x13, x14, x15, x16, x17, x18, x19, x20, x21, x22, x23, x24, x25, x26, x27, x28, x29, rfl⟩
theorem exL31 {α : Type} {xs : List α} (h : xs.length = 31) : ∃ x0 x1 x2 x3 x4 x5 x6 x7 x8 x9 x10 x11 x12 x13 x14 x15 x16 x17 x18 x19 x20 x21 x22 x23 x24 x25 x26 x27 x28 x29 x30, xs = [x0, x1, x2, x3, x4, x5, x6, x7, x8, x9, x10, x11, x12, x13, x14, x15, x16, x17, x18, x19, x20, x21, x22, x23, x24, x25, x26, x27, x28, x29, x30] := by
  cases xs with
  | nil => cases h
  | cons x0 xs =>
    obtain ⟨x1, x2, x3, x4, x5, x6, x7, x8, x9, x10, x11, x12, x13, x14, x15, x16, x17, x18, x19, x20, x21, x22, x23, x24, x25, x26, x27, x28, x29, x30, rfl⟩ := exL30 (Nat.succ.inj h)
    exact ⟨x0, x1, x2, x3, x4, x5, x6, x7, x8, x9, x10, x11, x12, x13, x14, x15, x16, x17, x18, x19, x20, x21, x22, x23, x24, x25, x26, x27, x28, x29, x30, rfl⟩
theorem exL32 {α : Type} {xs : List α} (h : xs.length = 32) : ∃ x0 x1 x2 x3 x4 x5 x6 x7 x8 x9 x10 x11 x12 x13 x14 x15 x16 x17 x18 x19 x20 x21 x22 x23 x24 x25 x26 x27 x28 x29 x30 x31, xs = [x0, x1, x2, x3, x4, x5, x6, x7, x8, x9, x10, x11, x12, x13, x14, x15, x16, x17, x18, x19, x20, x21, x22, x23, x24, x25, x26, x27, x28, x29, x30, x31] := by
  cases xs with
  | nil => cases h
  | cons x0 xs =>
    obtain ⟨x1, x2, x3, x4, x5, x6, x7, x8, x9, x10, x11, x12, x13, x14, x15, x16, x17, x18, x19, x20, x21, x22, x23, x24, x25, x26, x27, x28, x29, x30, x31, rfl⟩ := exL31 (Nat.succ.inj h)
    exact ⟨x0, x1, x2, x3, x4, x5, x6, x7, x8, x9, x10, x11, x12, x13, x14, x15, x16, x17, x18, x19, x20, x21, x22, x23, x24, x25, x26, x27, x28, x29, x30, x31, rfl⟩
theorem exL33 {α : Type} {xs : List α} (h : xs.length = 33) : ∃ x0 x1 x2 x3 x4 x5 x6 x7 x8 x9 x10 x11 x12 x13 x14 x15 x16 x17 x18 x19 x20 x21 x22 x23 x24 x25 x26 x27 x28 x29 x30 x31 x32, xs = [x0, x1, x2, x3, x4, x5, x6, x7, x8, x9, x10, x11, x12, x13, x14, x15, x16, x17, x18, x19, x20, x21, x22, x23, x24, x25, x26, x27, x28, x29, x30, x31, x32] := by
  cases xs with
  | nil => cases h
  | cons x0 xs =>
    obtain ⟨x1, x2, x3, x4, x5, x6, x7, x8, x9, x10, x11, x12, x13, x14, x15, x16, x17, x18, x19, x20, x21, x22, x23, x24, x25, x26, x27, x28, x29, x30, x31, x32, rfl⟩ := exL32 (Nat.succ.inj h)
    exact ⟨x0, x1, x2, x3, x4, x5, x6, x7, x8, x9, x10, x11, x12, x13, x14, x15, x16, x17, x18, x19, x20, x21, x22, x23, x24, x25, x26, x27, x28, x29, x30, x31, x32, rfl⟩
theorem exL34 {α : Type} {xs : List α} (h : xs.length = 34) : ∃ x0 x1 x2 x3 x4 x5 x6 x7 x8 x9 x10 x11 x12 x13 x14 x15 x16 x17 x18 x19 x20 x21 x22 x23 x24 x25 x26 x27 x28 x29 x30 x31 x32 x33, xs = [x0, x1, x2, x3, x4, x5, x6, x7, x8, x9, x10, x11, x12, x13, x14, x15, x16, x17, x18, x19, x20, x21, x22, x23, x24, x25, x26, x27, x28, x29, x30, x31, x32, x33] := by
  cases xs with
  | nil => cases h
  | cons x0 xs =>
    obtain ⟨x1, x2, x3, x4, x5, x6, x7, x8, x9, x10, x11, x12, x13, x14, x15, x16, x17, x18, x19, x20, x21, x22, x23, x24, x25, x26, x27, x28, x29, x30, x31, x32, x33, rfl⟩ := exL33 (Nat.succ.inj h)
    exact ⟨x0, x1, x2, x3, x4, x5, x6, x7, x8, x9, x10, x11, x12, x13, x14, x15, x16, x17, x18, x19, x20, x21, x22, x23, x24, x25, x26, x27, x28, x29, x30, x31, x32, x33, rfl⟩
theorem exL35 {α : Type} {xs : List α} (h : xs.length = 35) : ∃ x0 x1 x2 x3 x4 x5 x6 x7 x8 x9 x10 x11 x12 x13 x14 x15 x16 x17 x18 x19 x20 x21 x22 x23 x24 x25 x26 x27 x28 x29 x30 x31 x32 x33 x34, xs = [x0, x1, x2, x3, x4, x5, x6, x7, x8, x9, x10, x11, x12, x13, x14, x15, x16, x17, x18, x19, x20, x21, x22, x23, x24, x25, x26, x27, x28, x29, x30, x31, x32, x33, x34] := by
  cases xs with
  | nil => cases h
  | cons x0 xs =>
    obtain ⟨x1, x2, x3, x4, x5, x6, x7, x8, x9, x10, x11, x12, x13, x14, x15, x16, x17, x18, x19, x20, x21, x22, x23, x24, x25, x26, x27, x28, x29, x30, x31, x32, x33, x34, rfl⟩ := exL34 (Nat.succ.inj h)
    exact ⟨x0, x1, x2, x3, x4, x5, x6, x7, x8, x9, x10, x11, x12, x13, x14, x15, x16, x17, x18, x19, x20, x21, x22, x23, x24, x25, x26, x27, x28, x29, x30, x31, x32, x33, x34, rfl⟩
theorem exL36 {α : Type} {xs : List α} (h : xs.length = 36) : ∃ x0 x1 x2 x3 x4 x5 x6 x7 x8 x9 x10 x11 x12 x13 x14 x15 x16 x17 x18 x19 x20 x21 x22 x23 x24 x25 x26 x27 x28 x29 x30 x31 x32 x33 x34 x35, xs = [x0, x1, x2, x3, x4, x5, x6, x7, x8, x9, x10, x11, x12, x13, x14, x15, x16, x17, x18, x19, x20, x21, x22, x23, x24, x25, x26, x27, x28, x29, x30, x31, x32, x33, x34, x35] := by
  cases xs with
  | nil => cases h
  | cons x0 xs =>
    obtain ⟨x1, x2, x3, x4, x5, x6, x7, x8, x9, x10, x11, x12, x13, x14, x15, x16, x17, x18, x19, x20, x21, x22, x23, x24, x25, x26, x27, x28, x29, x30, x31, x32, x33, x34, x35, rfl⟩ := exL35 (Nat.succ.inj h)
    exact ⟨x0, x1, x2, x3, x4, x5, x6, x7, x8, x9, x10, x11, x12, x13, x14, x15, x16, x17, x18, x19, x20, x21, x22, x23, x24, x25, x26, x27, x28, x29, x30, x31, x32, x33, x34, x35, rfl⟩
theorem exL37 {α : Type} {xs : List α} (h : xs.length = 37) : ∃ x0 x1 x2 x3 x4 x5 x6 x7 x8 x9 x10 x11 x12 x13 x14 x15 x16 x17 x18 x19 x20 x21 x22 x23 x24 x25 x26 x27 x28 x29 x30 x31 x32 x33 x34 x35 x36, xs = [x0, x1, x2, x3, x4, x5, x6, x7, x8, x9, x10, x11, x12, x13, x14, x15, x16, x17, x18, x19, x20, x21, x22, x23, x24, x25, x26, x27, x28, x29, x30, x31, x32, x33, x34, x35, x36] := by
  cases xs with
  | nil => cases h
  | cons x0 xs =>
    obtain ⟨x1, x2, x3, x4, x5, x6, x7, x8, x9, x10, x11, x12, x13, x14, x15, x16, x17, x18, x19, x20, x21, x22, x23, x24, x25, x26, x27, x28, x29, x30, x31, x32, x33, x34, x35, x36, rfl⟩ := exL36 (Nat.succ.inj h)
    exact ⟨x0, x1, x2, x3, x4, x5, x6, x7, x8, x9, x10, x11, x12, x13, x14, x15, x16, x17, x18, x19, x20, x21, x22, x23, x24, x25, x26, x27, x28, x29, x30, x31, x32, x33, x34, x35, x36, rfl⟩
theorem exL38 {α : Type} {xs : List α} (h : xs.length = 38) : ∃ x0 x1 x2 x3 x4 x5 x6 x7 x8 x9 x10 x11 x12 x13 x14 x15 x16 x17 x18 x19 x20 x21 x22 x23 x24 x25 x26 x27 x28 x29 x30 x31 x32 x33 x34 x35 x36 x37, xs = [x0, x1, x2, x3, x4, x5, x6, x7, x8, x9, x10, x11, x12, x13, x14, x15, x16, x17, x18, x19, x20, x21, x22, x23, x24, x25, x26, x27, x28, x29, x30, x31, x32, x33, x34, x35, x36, x37] := by
  cases xs with
  | nil => cases h
  | cons x0 xs =>
    obtain ⟨x1, x2, x3, x4, x5, x6, x7, x8, x9, x10, x11, x12, x13, x14, x15, x16, x17, x18, x19, x20, x21, x22, x23, x24, x25, x26, x27, x28, x29, x30, x31, x32, x33, x34, x35, x36, x37, rfl⟩ := exL37 (Nat.succ.inj h)
    exact ⟨x0, x1, x2, x3, x4, x5, x6, x7, x8, x9, x10, x11, x12, x13, x14, x15, x16, x17, x18, x19, x20, x21, x22, x23, x24, x25, x26, x27, x28, x29, x30, x31, x32, x33, x34, x35, x36, x37, rfl⟩
theorem exL39 {α : Type} {xs : List α} (h : xs.length = 39) : ∃ x0 x1 x2 x3 x4 x5 x6 x7 x8 x9 x10 x11 x12 x13 x14 x15 x16 x17 x18 x19 x20 x21 x22 x23 x24 x25 x26 x27 x28 x29 x30 x31 x32 x33 x34 x35 x36 x37 x38, xs = [x0, x1, x2, x3, x4, x5, x6, x7, x8, x9, x10, x11, x12, x13, x14, x15, x16, x17, x18, x19, x20, x21, x22, x23, x24, x25, x26, x27, x28, x29, x30, x31, x32, x33, x34, x35, x36, x37, x38] := by
  cases xs with
  | nil => cases h
  | cons x0 xs =>
    obtain ⟨x1, x2, x3, x4, x5, x6, x7, x8, x9, x10, x11, x12, x13, x14, x15, x16, x17, x18, x19, x20, x21, x22, x23, x24, x25, x26, x27, x28, x29, x30, x31, x32, x33, x34, x35, x36, x37, x38, rfl⟩ := exL38 (Nat.succ.inj h)
    exact ⟨x0, x1, x2, x3, x4, x5, x6, x7, x8, x9, x10, x11, x12, x13, x14, x15, x16, x17, x18, x19, x20, x21, x22, x23, x24, x25, x26, x27, x28, x29, x30, x31, x32, x33, x34, x35, x36, x37, x38, rfl⟩
section
open PySem
variable {st : Sto}
theorem r1_e {j : Int} (h : -(2 ^ 62) ≤ j ∧ j < 2 ^ 62) : rng1 [.int j] (lv st) = .ok (itRng 0 1 j.toNat) (lv st) := by
  have : smI j = true := by simp only [smI, h, decide_true, Bool.and_self]
  simp only [rng1, this, if_true]
theorem r2_e {i j : Int} (h : (-(2 ^ 62) ≤ i ∧ i < 2 ^ 62) ∧ -(2 ^ 62) ≤ j ∧ j < 2 ^ 62) : rng2 [.int i, .int j] (lv st) = .ok (itRng i 1 (j - i).toNat) (lv st) := by
  have h1 : smI i = true := by simp only [smI, h, decide_true, Bool.and_self]
  have h2 : smI j = true := by simp only [smI, h, decide_true, Bool.and_self]
  simp only [rng2, h1, h2, and_self, if_true]
end
end Q
end

section
set_option Elab.async false
set_option linter.all false
set_option maxRecDepth 100000
set_option maxHeartbeats 4000000
set_option autoImplicit false
set_option exponentiation.threshold 2000
/-! The numbers. -/
namespace Q
open PySem L2
def hv (r : Int) (l : List Int) : Int := l.foldl (fun f d => f * r + d) 0
theorem hv_snoc (r : Int) (l : List Int) (x : Int) : hv r (l ++ [x]) = hv r l * r + x := by simp [hv, List.foldl_append]
theorem hv_bound {r : Int} (hr : 0 ≤ r ∧ r ≤ 8) : ∀ (k : Nat) (l : List Int), l.length = k → (∀ d ∈ l, d.natAbs ≤ 8) → (hv r l).natAbs ≤ 16 ^ k
  | 0, l, h, _ => by
    rw [List.eq_nil_of_length_eq_zero h]
    simp [hv]
  | k + 1, l, h, hd => by
    obtain ⟨l', x, rfl⟩ : ∃ l' x, l = l' ++ [x] := by
      have hne : l ≠ [] := by intro e; simp [e] at h
      exact ⟨l.dropLast, l.getLast hne, (List.dropLast_concat_getLast hne).symm⟩
    have hl : l'.length = k := by simpa using h
    have ih := hv_bound hr k l' hl fun d hd' => hd d (by simp [hd'])
    have hx := hd x (by simp)
    rw [hv_snoc]
    have h1 : (hv r l' * r).natAbs ≤ 16 ^ k * 8 := by
      rw [Int.natAbs_mul]
      exact Nat.mul_le_mul ih (by omega)
    have h2 : 1 ≤ 16 ^ k := Nat.pow_pos (by omega)
    have h3 : (hv r l' * r + x).natAbs ≤ (hv r l' * r).natAbs + x.natAbs := Int.natAbs_add_le _ _
    rw [Nat.pow_succ]
    omega
/-- the digits of a number in m places -/
def dg (r : Int) (m : Nat) (L : Int) : List Int := (List.range m).map fun p => L / r ^ (m - 1 - p) % r
theorem dg_succ {r : Int} (hr : 0 < r) (m : Nat) (L : Int) : dg r (m + 1) L = dg r m (L / r) ++ [L % r] := by
  unfold dg
  rw [List.range_succ, List.map_append]
  congr 1
  · apply List.map_congr_left
    intro p hp
    have hp := List.mem_range.mp hp
    have e : m + 1 - 1 - p = (m - 1 - p) + 1 := by omega
    rw [e, Int.pow_succ, Int.mul_comm, ← Int.ediv_ediv_of_nonneg (Int.le_of_lt hr)]
  · simp
theorem hv_dg {r : Int} (hr : 0 < r) : ∀ (m : Nat) (L : Int), 0 ≤ L → L < r ^ m → hv r (dg r m L) = L
  | 0, L, h0, h1 => by
    have : L = 0 := by simp at h1; omega
    rw [this]; rfl
  | m + 1, L, h0, h1 => by
    rw [dg_succ hr, hv_snoc, hv_dg hr m (L / r) (Int.ediv_nonneg h0 (Int.le_of_lt hr)) (by
      rw [Int.pow_succ] at h1
      exact Int.ediv_lt_of_lt_mul hr h1)]
    have := Int.emod_add_mul_ediv L r
    rw [Int.mul_comm]
    omega
theorem dg_rng {r : Int} (hr : 0 < r) {m : Nat} {L x : Int} (h : x ∈ dg r m L) : 0 ≤ x ∧ x < r := by
  obtain ⟨p, _, rfl⟩ := List.mem_map.mp h
  exact ⟨Int.emod_nonneg _ (by omega), Int.emod_lt_of_pos _ hr⟩
/-- a tuple of ordinary digits -/
structure Od (r : Int) (m : Nat) (l : List Int) : Prop where
  len : l.length = m
  rng : ∀ d ∈ l, 0 ≤ d ∧ d < r
section
variable {st : Sto}
theorem kn_int (m : Nat) (i : Int) : Kn m (.int i) st := by
  cases m with
  | zero => exact ⟨_, rfl⟩
  | succ m => exact ⟨⟨_, rfl⟩, fun ds e => by cases e⟩
theorem kn_ints (m : Nat) (l : List Int) : Kn m (.tup (l.map D.int)) st := by
  cases m with
  | zero => exact ⟨_, rfl⟩
  | succ m => exact ⟨⟨_, rfl⟩, fun ds e x hx => by
      cases e
      obtain ⟨i, _, rfl⟩ := List.mem_map.mp hx
      exact kn_int _ _⟩
end
theorem ints_of {p : Int → Prop} : ∀ {ds : List D}, (∀ x ∈ ds, ∃ i : Int, x = .int i ∧ p i) → ∃ l : List Int, ds = l.map D.int ∧ ∀ i ∈ l, p i
  | [], _ => ⟨[], rfl, by simp⟩
  | d :: ds, h => by
    obtain ⟨i, rfl, hi⟩ := h d (by simp)
    obtain ⟨l, rfl, hl⟩ := ints_of (ds := ds) fun x hx => h x (by simp [hx])
    exact ⟨i :: l, rfl, fun j hj => by
      rcases List.mem_cons.mp hj with rfl | hj
      · exact hi
      · exact hl j hj⟩
theorem r_cases {kk : Int} (h1 : 1 ≤ kk) (h3 : kk ≤ 3) : (2 : Int) ^ kk.toNat = 2 ∨ (2 : Int) ^ kk.toNat = 4 ∨ (2 : Int) ^ kk.toNat = 8 := by
  have : kk = 1 ∨ kk = 2 ∨ kk = 3 := by omega
  rcases this with rfl | rfl | rfl
  · exact .inl rfl
  · exact .inr (.inl rfl)
  · exact .inr (.inr rfl)

theorem pow_le2 {i j : Nat} (h : i ≤ j) : (2 : Int) ^ i ≤ 2 ^ j := by
  have := Nat.pow_le_pow_right (n := 2) (by omega) h
  exact_mod_cast this
theorem foldl_aux (r : Int) : ∀ (t : List Int) (x : Int), t.foldl (fun f d => f * r + d) x = x * r ^ t.length + hv r t
  | [], x => by simp [hv]
  | d :: t, x => by
    have h1 := foldl_aux r t (x * r + d)
    have h2 := foldl_aux r t d
    have e : hv r (d :: t) = t.foldl (fun f d => f * r + d) d := by
      show t.foldl _ (0 * r + d) = _
      rw [Int.zero_mul, Int.zero_add]
    rw [e, h2]
    show t.foldl _ (x * r + d) = _
    rw [h1, List.length_cons, Int.pow_succ, Int.add_mul]
    have : x * r * r ^ t.length = x * (r ^ t.length * r) := by rw [Int.mul_assoc, Int.mul_comm r]
    omega
theorem hv_append (r : Int) (A B : List Int) : hv r (A ++ B) = hv r A * r ^ B.length + hv r B := by
  unfold hv
  rw [List.foldl_append]
  exact foldl_aux r B _
theorem hv_cons (r d : Int) (t : List Int) : hv r (d :: t) = d * r ^ t.length + hv r t := by
  have := hv_append r [d] t
  simpa [hv] using this
theorem hv_neg (r : Int) : ∀ l : List Int, hv r (l.map fun d => -d) = -hv r l
  | [] => rfl
  | d :: l => by
    rw [List.map_cons, hv_cons, hv_cons, hv_neg r l, List.length_map, Int.neg_mul]
    omega
theorem hv_rep (r a : Int) : ∀ m : Nat, hv r (List.replicate m a) * (r - 1) = a * (r ^ m - 1)
  | 0 => by simp [hv]
  | m + 1 => by
    have ih := hv_rep r a m
    rw [List.replicate_succ, hv_cons, List.length_replicate, Int.add_mul, ih, Int.pow_succ]
    have e1 : a * r ^ m * (r - 1) = a * (r ^ m * r) - a * r ^ m := by rw [Int.mul_sub, Int.mul_one, Int.mul_assoc]
    rw [e1, Int.mul_sub, Int.mul_sub]
    omega
/-- the greatest value of m digits -/
def top (r a : Int) (m : Nat) : Int := hv r (List.replicate m a)
theorem top_div {r a : Int} (hr : 1 < r) (m : Nat) : a * (r ^ m - 1) / (r - 1) = top r a m := by
  rw [← hv_rep]
  exact Int.mul_ediv_cancel _ (by omega)
theorem hv_le_top {r a : Int} (hr : 0 ≤ r) : ∀ l : List Int, (∀ d ∈ l, (d.natAbs : Int) ≤ a) → hv r l ≤ top r a l.length ∧ -top r a l.length ≤ hv r l
  | [], _ => by simp [hv, top]
  | d :: l, h => by
    obtain ⟨h1, h2⟩ := hv_le_top hr l fun x hx => h x (by simp [hx])
    have hd := h d (by simp)
    have hp : 0 ≤ r ^ l.length := Int.pow_nonneg hr
    unfold top at *
    rw [hv_cons, List.length_cons, List.replicate_succ, hv_cons, List.length_replicate]
    have e1 : d * r ^ l.length ≤ a * r ^ l.length := Int.mul_le_mul_of_nonneg_right (by omega) hp
    have e2 : -a * r ^ l.length ≤ d * r ^ l.length := Int.mul_le_mul_of_nonneg_right (by omega) hp
    rw [Int.neg_mul] at e2
    omega
theorem pow_two_mul (k : Int) (hk : 0 ≤ k) (m : Nat) : (2 : Int) ^ (k * m).toNat = (2 ^ k.toNat) ^ m := by
  rw [← Int.pow_mul]
  congr 1
  obtain ⟨j, rfl⟩ := Int.eq_ofNat_of_zero_le hk
  simp only [Int.toNat_natCast]
  rw [← Int.natCast_mul, Int.toNat_natCast]
section
variable {T : PT} (P : Pg T) {fu n : Nat} {st : Sto}
omit P in
theorem isStr_ints {a : Int} {l : List Int} (h : ∀ d ∈ l, (d.natAbs : Int) ≤ a) : isStrB a (.tup (l.map D.int)) = true := by
  simp only [isStrB, List.all_eq_true, List.mem_map]
  rintro x ⟨i, hi, rfl⟩
  simp [isDigB, h i hi]
theorem hv_bits {r : Int} {l : List Int} (hr : 0 ≤ r ∧ r ≤ 8) (h : ∀ d ∈ l, d.natAbs ≤ 8) (hl : l.length ≤ 1000) : bits (hv r l) < 5000 := by
  refine bits_lt (Nat.lt_of_le_of_lt (hv_bound hr l.length l rfl h) ?_) (by omega)
  rw [show (16 : Nat) = 2 ^ 4 from rfl, ← Nat.pow_mul]
  exact Nat.pow_lt_pow_right (by omega) (by omega)
include P in
theorem value_e {k a : Int} {l : List Int} (h : Sc k a) (hd : ∀ d ∈ l, (d.natAbs : Int) ≤ a) (hl : l.length ≤ 1000) : callF T fu (n + 5) 11 [sch k a, .tup (l.map D.int)] (lv st) = .ok (.int (hv (2 ^ k.toNat) l)) (lv st) := by
  have hk1 := h.k1
  have hk3 := h.k3
  have hrc := r_cases hk1 hk3
  have ha := h.hi
  have hd8 : ∀ d ∈ l, d.natAbs ≤ 8 := fun d h => by have := hd d h; omega
  rw [c_in (P 11 _ rfl)]
  apply EnsR.eq
  simp only [evAll0, evAll1, evAll2, evAll3, evAll4, evAll5, evAll6, Bool.not_true, Bool.not_false, decide_true, decide_false, mk_ft, Option.map_some, List.cons_append, List.nil_append, env0, List.map_cons, List.map_nil, List.length_cons, List.length_nil, List.reduceReplicate, Nat.reduceAdd, Nat.reduceSub, Nat.zero_add, List.append_nil, Nat.reduceLeDiff, Int.reduceEq, Int.reduceLT, Int.reduceLE, Int.reduceGT, Int.reduceGE, Int.reduceNe, i_tup, f_value, b_f_value, need_scheme_e P h, need_string_e P (k := k) (a := a) (d := .tup (l.map D.int)) (st := st) (kn_ints 1 l) (isStr_ints hd), s_for]
  refine n_loop (fun i env s => s = st ∧ i ≤ l.length ∧ ∃ z, env = [some (sch k a), some (.tup (l.map D.int)), some (.int (hv (2 ^ k.toNat) (l.take i))), z]) ⟨rfl, Nat.zero_le _, none, by simp [hv]⟩ (fun i env s hi h => ?_) (fun env s h => ?_)
  · obtain ⟨rfl, h1, z, rfl⟩ := h
    have hi : i < l.length := by simpa [itTup] using hi
    have b1 : bits (hv (2 ^ k.toNat) (l.take i)) + bits (2 ^ k.toNat) < 1000000 := by
      have e1 := hv_bits (r := 2 ^ k.toNat) (l := l.take i) (by omega) (fun d h => hd8 d (List.mem_of_mem_take h)) (by rw [List.length_take]; omega)
      have e2 : bits (2 ^ k.toNat) < 64 := bits_small (by omega)
      omega
    refine ⟨.int l[i], _, by simp [itTup, hi], g_nm, ?_⟩
    simp only [evAll0, evAll1, evAll2, evAll3, evAll4, evAll5, evAll6, Bool.not_true, Bool.not_false, decide_true, decide_false, mk_ft, Option.map_some, List.cons_append, List.nil_append, env0, List.map_cons, List.map_nil, List.length_cons, List.length_nil, List.reduceReplicate, Nat.reduceAdd, Nat.reduceSub, Nat.zero_add, List.append_nil, Nat.reduceLeDiff, Int.reduceEq, Int.reduceLT, Int.reduceLE, Int.reduceGT, Int.reduceGE, Int.reduceNe, i_tup, radix_e P (show 0 ≤ k by omega) (show k ≤ 1000 by omega), p_mul b1]
    refine ⟨rfl, hi, some (.int l[i]), ?_⟩
    rw [List.take_succ_eq_append_getElem hi, hv_snoc]
  · obtain ⟨rfl, h1, z, rfl⟩ := h
    refine ⟨rfl, ?_⟩
    simp only [evAll0, evAll1, evAll2, evAll3, evAll4, evAll5, evAll6, Bool.not_true, Bool.not_false, decide_true, decide_false, mk_ft, Option.map_some, List.cons_append, List.nil_append, env0, List.map_cons, List.map_nil, List.length_cons, List.length_nil, List.reduceReplicate, Nat.reduceAdd, Nat.reduceSub, Nat.zero_add, List.append_nil, Nat.reduceLeDiff, Int.reduceEq, Int.reduceLT, Int.reduceLE, Int.reduceGT, Int.reduceGE, Int.reduceNe, i_tup]
    simp [itTup]
include P in
theorem most_e {k a m : Int} (h : Sc k a) (hm : 0 ≤ m ∧ m ≤ 1000) : callF T fu (n + 2) 16 [sch k a, .int m] (lv st) = .ok (.int (top (2 ^ k.toNat) a m.toNat)) (lv st) := by
  have hk1 := h.k1
  have hk3 := h.k3
  have hrc := r_cases hk1 hk3
  have ha := h.hi
  have hlo := h.lo
  have b1 : bits k + bits m < 1000000 := by
    have e1 : bits k < 64 := bits_small (by omega)
    have e2 : bits m < 64 := bits_small (by omega)
    omega
  have hkm : 0 ≤ k * m ∧ k * m ≤ 3000 := by
    have := Int.mul_nonneg (show 0 ≤ k by omega) hm.1
    have e1 : k * m ≤ 3 * m := Int.mul_le_mul_of_nonneg_right hk3 hm.1
    omega
  have ep : (2 : Int) ^ (k * m).toNat = (2 ^ k.toNat) ^ m.toNat := by
    have := pow_two_mul k (by omega) m.toNat
    rwa [Int.toNat_of_nonneg hm.1] at this
  have b2 : bits a + bits ((2 ^ k.toNat) ^ m.toNat - 1) < 1000000 := by
    have e1 : bits a < 64 := bits_small (by omega)
    have e2 : bits (((2 : Int) ^ k.toNat) ^ m.toNat - 1) < 4000 := by
      have e3 : ((2 : Int) ^ k.toNat) ^ m.toNat ≤ 2 ^ 3000 := by
        rw [← ep]
        exact pow_le2 (by omega)
      have e4 : 0 < ((2 : Int) ^ k.toNat) ^ m.toNat := Int.pow_pos (by omega)
      refine bits_lt (abs_lt (by omega) (Int.lt_of_lt_of_le (show _ < (2 : Int) ^ 3000 by omega) (pow_le2 (by omega)))) (by omega)
    omega
  rw [c_in (P 16 _ rfl)]
  simp only [evAll0, evAll1, evAll2, evAll3, evAll4, evAll5, evAll6, Bool.not_true, Bool.not_false, decide_true, decide_false, mk_ft, Option.map_some, List.cons_append, List.nil_append, env0, List.map_cons, List.map_nil, List.length_cons, List.length_nil, List.reduceReplicate, Nat.reduceAdd, Nat.reduceSub, Nat.zero_add, List.append_nil, Nat.reduceLeDiff, Int.reduceEq, Int.reduceLT, Int.reduceLE, Int.reduceGT, Int.reduceGE, Int.reduceNe, i_tup, f_most, b_f_most, p_mul b1, p_shl (i := 1) (j := k * m) (st := st) ⟨hkm.1, by omega, by decide⟩, Int.one_mul, ep, p_mul b2, radix_e P (st := st) (show 0 ≤ k by omega) (show k ≤ 1000 by omega), p_fdiv (i := a * ((2 ^ k.toNat) ^ m.toNat - 1)) (j := 2 ^ k.toNat - 1) (st := st) ⟨by omega, Nat.lt_of_lt_of_le (bits_small (by omega)) (by omega)⟩, top_div (show 1 < (2 : Int) ^ k.toNat by omega)]
include P in
theorem greatest_e {k a m : Int} (h : Sc k a) (hm : 0 ≤ m ∧ m ≤ 1000) : callF T fu (n + 4) 12 [sch k a, .int m] (lv st) = .ok (.int (top (2 ^ k.toNat) a m.toNat)) (lv st) := by
  rw [c_in (P 12 _ rfl)]
  simp only [evAll0, evAll1, evAll2, evAll3, evAll4, evAll5, evAll6, Bool.not_true, Bool.not_false, decide_true, decide_false, mk_ft, Option.map_some, List.cons_append, List.nil_append, env0, List.map_cons, List.map_nil, List.length_cons, List.length_nil, List.reduceReplicate, Nat.reduceAdd, Nat.reduceSub, Nat.zero_add, List.append_nil, Nat.reduceLeDiff, Int.reduceEq, Int.reduceLT, Int.reduceLE, Int.reduceGT, Int.reduceGE, Int.reduceNe, i_tup, f_greatest, b_f_greatest, need_scheme_e P h, is_natural_e P (n := n + 1) (d := .int m) (st := st) ⟨_, rfl⟩, hm.1, most_e P h hm]
end
section
variable {st : Sto}
theorem rv_tup {ds : List D} : rev2D (.tup ds) (lv st) = some (.tup ds.reverse, lv st) := rfl
theorem en_tup {ds : List D} : enD [.tup ds] (lv st) = .ok (itEn (itTup ds)) (lv st) := rfl
theorem sl_tup' {ds : List D} {lo hi : Option Int} : slD (.tup ds) lo hi (lv st) = some (.tup (cutD ds lo hi), lv st) := rfl
theorem cut_to {α : Type} {xs : List α} {c : Int} (h0 : 0 ≤ c) (h1 : c ≤ xs.length) : cutD xs none (some c) = xs.take c.toNat := by
  unfold cutD
  have e1 : HT.sIx xs.length 0 none = 0 := rfl
  have e2 : HT.sIx xs.length xs.length (some c) = c.toNat := by
    show (if c < 0 then (c + (xs.length : Int)).toNat else min c.toNat xs.length) = _
    rw [if_neg (by omega)]
    omega
  rw [e1, e2, List.drop_zero, Nat.sub_zero]
theorem cut_from {α : Type} {xs : List α} {c : Int} (h0 : 0 ≤ c) (h1 : c ≤ xs.length) : cutD xs (some c) none = xs.drop c.toNat := by
  unfold cutD
  have e1 : HT.sIx xs.length xs.length none = xs.length := rfl
  have e2 : HT.sIx xs.length 0 (some c) = c.toNat := by
    show (if c < 0 then (c + (xs.length : Int)).toNat else min c.toNat xs.length) = _
    rw [if_neg (by omega)]
    omega
  rw [e1, e2, List.take_of_length_le (by rw [List.length_drop]; omega)]
theorem p_rep {x : D} {m : Int} (h : 0 ≤ m ∧ m ≤ 1000) : opD .mul (.tup [x]) (.int m) (lv st) = some (.tup (List.replicate m.toNat x), lv st) := by
  by_cases h2 : 2 ≤ m
  · have e : (List.replicate m.toNat [x]).flatten = List.replicate m.toNat x := by
      rw [List.flatten_replicate_singleton]
    simp [opD, mul2D, mulD, alt2, int2, repT, h2, h.2, e]
  · have : m = 0 ∨ m = 1 := by omega
    rcases this with rfl | rfl <;> simp [opD, mul2D, mulD, alt2, int2, repT, repL, rep01]
end
theorem dg_len (r : Int) (m : Nat) (L : Int) : (dg r m L).length = m := by simp [dg]
theorem dg_snoc {r : Int} (hr : 0 < r) (m : Nat) (w q : Int) (h0 : 0 ≤ q) (h1 : q < r) : dg r (m + 1) (w * r + q) = dg r m w ++ [q] := by
  have e1 : (w * r + q) / r = w := by
    rw [Int.add_comm, Int.add_mul_ediv_right _ _ (by omega), Int.ediv_eq_zero_of_lt h0 h1, Int.zero_add]
  have e2 : (w * r + q) % r = q := by
    rw [Int.add_comm, Int.add_mul_emod_self_right, Int.emod_eq_of_lt h0 h1]
  rw [dg_succ hr, e1, e2]
/-- the registers that hold a value -/
theorem after_dg {k : Int} {i : Nat} {w q : Int} (hr : 0 < (2 : Int) ^ k.toNat) (h0 : -(2 ^ k.toNat) < q) (h1 : q < 2 ^ k.toNat) : afterD k ((dg (2 ^ k.toNat) i w).map D.int) ((dg (2 ^ k.toNat) i (w - 1)).map D.int) q = .tup [.tup ((dg (2 ^ k.toNat) (i + 1) (w * 2 ^ k.toNat + q)).map D.int), .tup ((dg (2 ^ k.toNat) (i + 1) (w * 2 ^ k.toNat + q - 1)).map D.int)] := by
  obtain ⟨r, hrr⟩ : ∃ r, r = (2 : Int) ^ k.toNat := ⟨_, rfl⟩
  unfold afterD
  rw [← hrr] at hr h0 h1 ⊢
  have a1 : (if 0 ≤ q then (dg r i w).map D.int ++ [.int q] else (dg r i (w - 1)).map D.int ++ [.int (r + q)]) = (dg r (i + 1) (w * r + q)).map D.int := by
    by_cases c : 0 ≤ q
    · rw [if_pos c, dg_snoc hr i w q c h1]; simp
    · have e : w * r + q = (w - 1) * r + (r + q) := by rw [Int.sub_mul]; omega
      rw [if_neg c, e, dg_snoc hr i (w - 1) (r + q) (by omega) (by omega)]; simp
  have a2 : (if 0 < q then (dg r i w).map D.int ++ [.int (q - 1)] else (dg r i (w - 1)).map D.int ++ [.int (r - 1 + q)]) = (dg r (i + 1) (w * r + q - 1)).map D.int := by
    by_cases c : 0 < q
    · have e : w * r + q - 1 = w * r + (q - 1) := by omega
      rw [if_pos c, e, dg_snoc hr i w (q - 1) (by omega) (by omega)]; simp
    · have e : w * r + q - 1 = (w - 1) * r + (r - 1 + q) := by rw [Int.sub_mul]; omega
      rw [if_neg c, e, dg_snoc hr i (w - 1) (r - 1 + q) (by omega) (by omega)]; simp
  rw [a1, a2]
def regD (r : Int) (l : List Int) : D := .tup [.tup ((dg r l.length (hv r l)).map D.int), .tup ((dg r l.length (hv r l - 1)).map D.int)]
section
variable {T : PT} (P : Pg T) {fu n : Nat} {st : Sto}
include P
theorem registers_e {k a : Int} {l : List Int} (h : Sc k a) (hd : ∀ d ∈ l, (d.natAbs : Int) ≤ a) (hl : l.length ≤ 900) : callF T fu (n + 5) 18 [sch k a, .tup (l.map D.int)] (lv st) = .ok (regD (2 ^ k.toNat) l) (lv st) := by
  have hk1 := h.k1
  have hk3 := h.k3
  have hrc := r_cases hk1 hk3
  have ha := h.hi
  rw [c_in (P 18 _ rfl)]
  apply EnsR.eq
  simp only [evAll0, evAll1, evAll2, evAll3, evAll4, evAll5, evAll6, Bool.not_true, Bool.not_false, decide_true, decide_false, mk_ft, Option.map_some, List.cons_append, List.nil_append, env0, List.map_cons, List.map_nil, List.length_cons, List.length_nil, List.reduceReplicate, Nat.reduceAdd, Nat.reduceSub, Nat.zero_add, List.append_nil, Nat.reduceLeDiff, Int.reduceEq, Int.reduceLT, Int.reduceLE, Int.reduceGT, Int.reduceGE, Int.reduceNe, i_tup, f_registers, b_f_registers, need_scheme_e P h, need_string_e P (k := k) (a := a) (d := .tup (l.map D.int)) (st := st) (kn_ints 1 l) (isStr_ints hd), s_for]
  refine n_loop (fun i env s => s = st ∧ i ≤ l.length ∧ ∃ z, env = [some (sch k a), some (.tup (l.map D.int)), some (regD (2 ^ k.toNat) (l.take i)), z]) ⟨rfl, Nat.zero_le _, none, by simp [regD, dg, hv]⟩ (fun i env s hi h => ?_) (fun env s h => ?_)
  · obtain ⟨rfl, h1, z, rfl⟩ := h
    have hi : i < l.length := by simpa [itTup] using hi
    have hx := hd _ (List.getElem_mem hi)
    obtain ⟨q, hq⟩ : ∃ q, q = l[i] := ⟨_, rfl⟩
    rw [← hq] at hx
    have hti : (l.take i).length = i := by rw [List.length_take]; omega
    have e1 : regD (2 ^ k.toNat) (l.take i) = .tup [.tup ((dg (2 ^ k.toNat) i (hv (2 ^ k.toNat) (l.take i))).map D.int), .tup ((dg (2 ^ k.toNat) i (hv (2 ^ k.toNat) (l.take i) - 1)).map D.int)] := by rw [regD, hti]
    have e2 : regD (2 ^ k.toNat) (l.take (i + 1)) = afterD k ((dg (2 ^ k.toNat) i (hv (2 ^ k.toNat) (l.take i))).map D.int) ((dg (2 ^ k.toNat) i (hv (2 ^ k.toNat) (l.take i) - 1)).map D.int) q := by
      rw [after_dg (by omega) (by omega) (by omega), regD, List.take_succ_eq_append_getElem hi, hv_snoc, ← hq, List.length_append, hti]
      rfl
    refine ⟨.int q, _, by simp [itTup, hi, hq], g_nm, ?_⟩
    simp only [evAll0, evAll1, evAll2, evAll3, evAll4, evAll5, evAll6, Bool.not_true, Bool.not_false, decide_true, decide_false, mk_ft, Option.map_some, List.cons_append, List.nil_append, env0, List.map_cons, List.map_nil, List.length_cons, List.length_nil, List.reduceReplicate, Nat.reduceAdd, Nat.reduceSub, Nat.zero_add, List.append_nil, Nat.reduceLeDiff, Int.reduceEq, Int.reduceLT, Int.reduceLE, Int.reduceGT, Int.reduceGE, Int.reduceNe, i_tup, e1, after_e P (n := n + 2) (k := k) (a := a) (q := q) (A := (dg (2 ^ k.toNat) i (hv (2 ^ k.toNat) (l.take i))).map D.int) (B := (dg (2 ^ k.toNat) i (hv (2 ^ k.toNat) (l.take i) - 1)).map D.int) (by omega) (by omega) (by rw [List.length_map, dg_len]; omega) (by rw [List.length_map, dg_len]; omega)]
    refine ⟨rfl, hi, some (.int q), ?_⟩
    rw [e2]
  · obtain ⟨rfl, h1, z, rfl⟩ := h
    have e : (itTup (l.map D.int)).n = l.length := by simp [itTup]
    refine ⟨rfl, ?_⟩
    simp only [evAll0, evAll1, evAll2, evAll3, evAll4, evAll5, evAll6, Bool.not_true, Bool.not_false, decide_true, decide_false, mk_ft, Option.map_some, List.cons_append, List.nil_append, env0, List.map_cons, List.map_nil, List.length_cons, List.length_nil, List.reduceReplicate, Nat.reduceAdd, Nat.reduceSub, Nat.zero_add, List.append_nil, Nat.reduceLeDiff, Int.reduceEq, Int.reduceLT, Int.reduceLE, Int.reduceGT, Int.reduceGE, Int.reduceNe, i_tup]
    rw [e, List.take_length]
    exact ⟨rfl, rfl⟩
end
theorem eqvAll_ints : ∀ l : List Int, PyData.eqvAll (l.map PyData.int) (l.map PyData.int) = true
  | [] => by simp [PyData.eqvAll]
  | x :: l => by simp [PyData.eqvAll, PyData.eqv, eqvAll_ints l]
theorem toP_tupI (st : Sto) (k : Nat) (l : List Int) : toP st (k + 2) (.tup (l.map D.int)) = some (.tuple (l.map PyData.int)) := by
  simp only [toP, toP_ints, Option.map_some]
theorem lay_tupI (l : List Int) : (PyData.tuple (l.map PyData.int)).canLay0 = true := by simp [PyData.canLay0, lay_all]
theorem dep_tupI (l : List Int) : (PyData.tuple (l.map PyData.int)).depth ≤ 2 := by
  have := dep_all l
  simp only [PyData.depth]
  omega
/-- a tuple of ints is in a pair of such -/
theorem notin_pair {st : Sto} {A X Y : List Int} (h : A = X ∨ A = Y) : cmD .notin (.tup (A.map D.int)) (.tup [.tup (X.map D.int), .tup (Y.map D.int)]) (lv st) = some (.bl false, lv st) := by
  have e1 : toP (lv st) 30 (.tup (A.map D.int)) = some (.tuple (A.map PyData.int)) := toP_tupI _ 28 A
  have e2 : seqP (lv st) (.tup [.tup (X.map D.int), .tup (Y.map D.int)]) = some [.tuple (X.map PyData.int), .tuple (Y.map PyData.int)] := by
    simp only [seqP, mapO, toP_tupI _ 27 X, toP_tupI _ 27 Y]
  have e3 : SeqAt.shaped (.tuple (A.map PyData.int)) = true := by
    have := dep_tupI A
    unfold SeqAt.shaped
    rw [Bool.and_eq_true, decide_eq_true_eq]
    exact ⟨lay_tupI A, by omega⟩
  have e4 : PyData.canLayAll0 [.tuple (X.map PyData.int), .tuple (Y.map PyData.int)] = true := by simp [PyData.canLayAll0, lay_tupI]
  have e5 : (PyData.tuple (A.map PyData.int)).depth ≤ 60 := by have := dep_tupI A; omega
  have e6 : ([PyData.tuple (X.map PyData.int), .tuple (Y.map PyData.int)].any fun z => PyData.eqv z (.tuple (A.map PyData.int))) = true := by
    rcases h with rfl | rfl <;> simp [PyData.eqv, eqvAll_ints]
  simp [cmD, negB, inD, e1, e2, e3, e4, e5, e6]
theorem cut_last {α : Type} {xs : List α} : cutD xs none (some (-1)) = xs.dropLast := by
  unfold cutD
  have e1 : HT.sIx xs.length 0 none = 0 := rfl
  have e2 : HT.sIx xs.length xs.length (some (-1)) = xs.length - 1 := by
    show (if (-1 : Int) < 0 then ((-1 : Int) + (xs.length : Int)).toNat else min (-1 : Int).toNat xs.length) = _
    rw [if_pos (by omega)]
    omega
  rw [e1, e2, List.drop_zero, Nat.sub_zero, List.dropLast_eq_take]
theorem dg_dropLast {r : Int} (hr : 0 < r) (m : Nat) (L : Int) : (dg r (m + 1) L).dropLast = dg r m (L / r) := by
  rw [dg_succ hr, List.dropLast_concat]
end Q
end

section
set_option linter.all false
set_option autoImplicit false
set_option maxRecDepth 100000
/-! The laws' own functions by syntax. -/
namespace Q
open PySem
def lb_deck_40 : SL := (.cons (.set 1 (.int 14404389)) (.cons (.for (.nm 2) (.val (.sl (.var 0) .none (.some (.int 63)))) (.cons (.set 1 (.op .mod (.blt .int (.cons (.op .add (.op .add (.op .mul (.var 1) (.int 48271)) (.op .mod (.blt .int (.cons (.var 2) .nil)) (.int 2147483629))) (.int 89)) .nil)) (.int 2147483587))) .nil)) (.cons (.ret (.dict (.cons (.str "cells") (.rev (.blt .list (.cons (.sl (.var 0) .none (.some (.int 63))) .nil))) (.cons (.str "mixed") (.var 1) (.cons (.str "draws") (.int 0) .nil))))) .nil)))
def lf_deck_40 : Fd := ⟨["script", "mixed", "cell"], ["script"], lb_deck_40, none⟩
def lb_draw_40 : SL := (.cons (.put (.var 0) (.str "draws") (.op .add (.ix (.var 0) (.str "draws")) (.int 1))) (.cons (.set 2 (.op .add (.ix (.var 0) (.str "mixed")) (.op .mul (.int 61473) (.ix (.var 0) (.str "draws"))))) (.cons (.ite (.cmp .ne (.ix (.var 0) (.str "cells")) (.lst .nil)) (.cons (.set 3 (.mt .pop (.ix (.var 0) (.str "cells")) .nil)) (.cons (.ite (.cmp .ge (.var 3) (.op .pow (.int 10) (.int 18))) (.cons (.expr (.mt .append (.ix (.var 0) (.str "cells")) (.cons (.op .fdiv (.var 3) (.blt .max2 (.cons (.int 2) (.cons (.var 1) .nil)))) .nil))) (.cons (.ret (.op .mod (.blt .int (.cons (.var 3) .nil)) (.var 1))) .nil)) .nil) (.cons (.set 2 (.op .add (.var 2) (.op .mod (.blt .int (.cons (.var 3) .nil)) (.int 2147483629)))) .nil))) .nil) (.cons (.set 2 (.op .mod (.blt .int (.cons (.op .add (.op .mul (.var 2) (.int 39373)) (.int 89)) .nil)) (.int 2147483647))) (.cons (.set 2 (.op .mod (.blt .int (.cons (.op .add (.op .add (.op .mul (.var 2) (.var 2)) (.op .mul (.int 52713) (.ix (.var 0) (.str "draws")))) (.int 61)) .nil)) (.int 2147483587))) (.cons (.set 2 (.op .mod (.blt .int (.cons (.op .mul (.var 2) (.int 40692)) .nil)) (.int 2147483563))) (.cons (.ret (.op .mod (.blt .int (.cons (.op .fdiv (.var 2) (.int 64)) .nil)) (.var 1))) .nil)))))))
def lf_draw_40 : Fd := ⟨["deck", "many", "number", "cell"], ["deck", "many"], lb_draw_40, none⟩
def lb_pick_0 : SL := (.cons (.ret (.ix (.var 1) (.call 201 (.cons (.var 0) (.cons (.blt .len (.cons (.var 1) .nil)) .nil))))) .nil)
def lf_pick_0 : Fd := ⟨["deck", "some"], ["deck", "some"], lb_pick_0, none⟩
def lb_power_0 : SL := (.cons (.set 2 (.int 1)) (.cons (.for (.nm 3) (.r1 (.var 1)) (.cons (.set 2 (.op .mul (.var 2) (.var 0))) .nil)) (.cons (.ret (.var 2)) .nil)))
def lf_power_0 : Fd := ⟨["base", "many", "found", "turn"], ["base", "many"], lb_power_0, none⟩
def lb_two_0 : SL := (.cons (.ret (.call 204 (.cons (.int 2) (.cons (.var 0) .nil)))) .nil)
def lf_two_0 : Fd := ⟨["many"], ["many"], lb_two_0, none⟩
def lb_scheme_0 : SL := (.cons (.ret (.call 203 (.cons (.var 0) (.cons (.lst (.cons (.tup (.cons (.int 2) (.cons (.int 2) .nil))) (.cons (.tup (.cons (.int 1) (.cons (.int 1) .nil))) (.cons (.tup (.cons (.int 2) (.cons (.int 3) .nil))) (.cons (.tup (.cons (.int 3) (.cons (.int 7) .nil))) (.cons (.tup (.cons (.int 3) (.cons (.int 4) .nil))) (.cons (.tup (.cons (.int 3) (.cons (.int 5) .nil))) (.cons (.tup (.cons (.int 3) (.cons (.int 6) .nil))) .nil)))))))) .nil)))) .nil)
def lf_scheme_0 : Fd := ⟨["deck"], ["deck"], lb_scheme_0, none⟩
def lb_scheme_2 : SL := (.cons (.set 1 (.call 203 (.cons (.var 0) (.cons (.lst (.cons (.int 1) (.cons (.int 2) (.cons (.int 1) (.cons (.int 2) (.cons (.int 3) (.cons (.int 2) (.cons (.int 1) (.cons (.int 3) .nil))))))))) .nil)))) (.cons (.ret (.tup (.cons (.var 1) (.cons (.op .add (.op .shl (.int 1) (.op .sub (.var 1) (.int 1))) (.call 201 (.cons (.var 0) (.cons (.op .shl (.int 1) (.op .sub (.var 1) (.int 1))) .nil)))) .nil)))) .nil))
def lf_scheme_2 : Fd := ⟨["deck", "k"], ["deck"], lb_scheme_2, none⟩
def lb_value_0 : SL := (.cons (.set 2 (.int 0)) (.cons (.for (.tp (.cons (.nm 3) (.cons (.nm 4) .nil))) (.enum (.rev (.var 1))) (.cons (.set 2 (.op .add (.var 2) (.op .mul (.var 4) (.call 205 (.cons (.op .mul (.ix (.var 0) (.int 0)) (.var 3)) .nil))))) .nil)) (.cons (.ret (.var 2)) .nil)))
def lf_value_0 : Fd := ⟨["scheme", "string", "found", "at", "digit"], ["scheme", "string"], lb_value_0, none⟩
def lb_most_0 : SL := (.cons (.ret (.call 213 (.cons (.var 0) (.cons (.op .mul (.tup (.cons (.ix (.var 0) (.int 1)) .nil)) (.var 1)) .nil)))) .nil)
def lf_most_0 : Fd := ⟨["scheme", "m"], ["scheme", "m"], lb_most_0, none⟩
def lb_string_0 : SL := (.cons (.asg (.tp (.cons (.nm 3) (.cons (.nm 4) .nil))) (.tup (.cons (.call 201 (.cons (.var 0) (.cons (.int 3) .nil))) (.cons (.ix (.var 1) (.int 1)) .nil)))) (.cons (.ite (.cmp .eq (.var 3) (.int 0)) (.cons (.ret (.blt .tuple (.cons (.lc (.r1 (.var 2)) (.nm 5) .none (.call 203 (.cons (.var 0) (.cons (.lst (.cons (.var 4) (.cons (.neg (.var 4)) (.cons (.int 0) (.cons (.var 4) .nil))))) .nil))) [5]) .nil))) .nil) .nil) (.cons (.ret (.blt .tuple (.cons (.lc (.r1 (.var 2)) (.nm 5) .none (.op .sub (.call 201 (.cons (.var 0) (.cons (.op .add (.op .mul (.int 2) (.var 4)) (.int 1)) .nil))) (.var 4)) [5]) .nil))) .nil)))
def lf_string_0 : Fd := ⟨["deck", "scheme", "m", "way", "a", "place"], ["deck", "scheme", "m"], lb_string_0, none⟩
def lb_places_0 : SL := (.cons (.set 3 (.lst .nil)) (.cons (.for (.nm 4) (.r1 (.var 2)) (.cons (.expr (.mt .append (.var 3) (.cons (.op .mod (.blt .int (.cons (.var 1) .nil)) (.var 0)) .nil))) (.cons (.set 1 (.op .fdiv (.var 1) (.var 0))) .nil))) (.cons (.ret (.blt .tuple (.cons (.rev (.var 3)) .nil))) .nil)))
def lf_places_0 : Fd := ⟨["r", "number", "m", "found", "place"], ["r", "number", "m"], lb_places_0, none⟩
def lb_held_0 : SL := (.cons (.set 2 (.int 0)) (.cons (.for (.nm 3) (.val (.var 1)) (.cons (.set 2 (.op .add (.op .mul (.var 2) (.var 0)) (.var 3))) .nil)) (.cons (.ret (.var 2)) .nil)))
def lf_held_0 : Fd := ⟨["r", "places", "found", "digit"], ["r", "places"], lb_held_0, none⟩
def lb_operands_2 : SL := (.cons (.par3 3 4 5 (.op .shl (.int 1) (.ix (.var 1) (.int 0))) (.ix (.var 1) (.int 1)) (.call 203 (.cons (.var 0) (.cons (.lst (.cons (.int 1) (.cons (.int 2) (.cons (.int 3) (.cons (.int 5) (.cons (.int 8) (.cons (.int 13) (.cons (.int 24) (.cons (.int 40) (.cons (.op .add (.int 1) (.call 201 (.cons (.var 0) (.cons (.int 40) .nil)))) .nil)))))))))) .nil)))) (.cons (.set 6 (.op .add (.op .shl (.int 1) (.var 5)) (.call 203 (.cons (.var 0) (.cons (.lst (.cons (.int 0) (.cons (.op .sub (.op .shl (.int 1) (.var 5)) (.int 1)) (.cons (.call 304 (.cons (.var 0) (.cons (.op .shl (.int 1) (.var 5)) .nil))) (.cons (.call 304 (.cons (.var 0) (.cons (.op .shl (.int 1) (.var 5)) .nil))) .nil))))) .nil))))) (.cons (.par2 7 8 (.op .fdiv (.op .mul (.var 4) (.var 6)) (.op .sub (.var 3) (.int 1))) (.call 201 (.cons (.var 0) (.cons (.int 6) .nil)))) (.cons (.set 9 (.op .sub (.call 304 (.cons (.var 0) (.cons (.op .add (.op .mul (.int 2) (.var 7)) (.int 1)) .nil))) (.var 7))) (.cons (.ite (.cmp .eq (.var 8) (.int 0)) (.cons (.set 9 (.call 203 (.cons (.var 0) (.cons (.lst (.cons (.var 7) (.cons (.neg (.var 7)) (.cons (.op .sub (.var 7) (.int 1)) (.cons (.op .sub (.int 1) (.var 7)) .nil))))) .nil)))) .nil) .nil) (.cons (.ite (.cmp .eq (.var 8) (.int 1)) (.cons (.set 9 (.call 203 (.cons (.var 0) (.cons (.lst (.cons (.int 0) (.cons (.int 1) (.cons (.neg (.int 1)) (.cons (.int 2) .nil))))) .nil)))) .nil) .nil) (.cons (.ite (.cmp .isin (.var 8) (.tup (.cons (.int 2) (.cons (.int 3) .nil)))) (.cons (.asg (.tp (.cons (.nm 10) (.cons (.nm 11) .nil))) (.call 262 (.cons (.var 1) (.cons (.var 2) (.cons (.op .shr (.op .shl (.op .sub (.var 6) (.op .shl (.int 1) (.var 5))) (.ix (.var 2) (.int 1))) (.var 5)) .nil))))) (.cons (.set 9 (.op .add (.op .fdiv (.op .shl (.op .add (.var 10) (.call 201 (.cons (.var 0) (.cons (.op .add (.op .sub (.var 11) (.var 10)) (.int 1)) .nil)))) (.var 5)) (.op .shl (.var 3) (.ix (.var 2) (.int 0)))) (.call 201 (.cons (.var 0) (.cons (.int 2) .nil))))) .nil)) .nil) (.cons (.set 9 (.blt .min2 (.cons (.blt .max2 (.cons (.var 9) (.cons (.neg (.var 7)) .nil))) (.cons (.var 7) .nil)))) (.cons (.ite (.cmp .eq (.ix (.var 2) (.int 2)) (.str "one")) (.cons (.ret (.tup (.cons (.var 9) (.cons (.var 6) (.cons (.var 5) .nil))))) .nil) .nil) (.cons (.set 12 (.op .add (.var 9) (.call 203 (.cons (.var 0) (.cons (.lst (.cons (.int 0) (.cons (.int 1) (.cons (.neg (.int 1)) (.cons (.var 6) (.cons (.neg (.var 6)) (.cons (.call 304 (.cons (.var 0) (.cons (.op .shl (.int 1) (.var 5)) .nil))) (.cons (.op .sub (.neg (.int 1)) (.call 304 (.cons (.var 0) (.cons (.op .shl (.int 1) (.var 5)) .nil)))) (.cons (.op .pow (.int 10) (.int 12)) .nil))))))))) .nil))))) (.cons (.ret (.tup (.cons (.tup (.cons (.var 12) (.cons (.op .sub (.var 9) (.var 12)) .nil))) (.cons (.var 6) (.cons (.var 5) .nil))))) .nil)))))))))))
def lf_operands_2 : Fd := ⟨["deck", "scheme", "look", "r", "a", "n", "d", "far", "way", "x", "low", "high", "p"], ["deck", "scheme", "look"], lb_operands_2, none⟩
def lb_reached_1 : SL := (.cons (.par3 3 4 5 (.ix (.var 0) (.int 1)) (.op .shl (.int 1) (.ix (.var 0) (.int 0))) (.ite (.cmp .eq (.ix (.var 1) (.int 2)) (.str "one")) (.int 1) (.int 2))) (.cons (.set 6 (.op .fdiv (.op .sub (.op .mul (.op .shl (.op .mul (.var 4) (.var 3)) (.ix (.var 1) (.int 0))) (.op .add (.op .add (.op .shl (.int 1) (.ix (.var 1) (.int 1))) (.var 2)) (.int 1))) (.int 1)) (.op .shl (.op .sub (.var 4) (.int 1)) (.ix (.var 1) (.int 1))))) (.cons (.ret (.tup (.cons (.op .sub (.neg (.var 6)) (.var 5)) (.cons (.var 6) .nil)))) .nil)))
def lf_reached_1 : Fd := ⟨["scheme", "look", "i", "a", "r", "g", "top"], ["scheme", "look", "i"], lb_reached_1, none⟩
def lb_is_told_3 : SL := (.cons (.asg (.tp (.cons (.nm 4) (.cons (.nm 5) (.cons (.nm 6) .nil)))) (.var 1)) (.cons (.set 7 (.call 336 (.cons (.op .shl (.var 4) (.op .mul (.ix (.var 0) (.int 0)) (.var 2))) (.cons (.var 5) (.cons (.var 3) .nil))))) (.cons (.set 8 (.lst (.cons (.call 102 (.cons (.var 0) (.cons (.str "one") (.cons (.var 1) (.cons (.var 2) (.cons (.var 3) .nil)))))) (.cons (.callK 102 0 [4, 3, 2, 1, 0] .nil (.cons (.var 3) (.cons (.var 2) (.cons (.var 1) (.cons (.str "one") (.cons (.var 0) .nil)))))) .nil)))) (.cons (.for (.nm 9) (.val (.tup (.cons (.var 4) (.cons (.op .add (.var 4) (.var 5)) (.cons (.neg (.op .pow (.int 10) (.int 30))) (.cons (.op .pow (.int 10) (.int 39)) .nil)))))) (.cons (.expr (.mt .append (.var 8) (.cons (.call 102 (.cons (.var 0) (.cons (.str "pair") (.cons (.tup (.cons (.tup (.cons (.var 9) (.cons (.op .sub (.var 4) (.var 9)) .nil))) (.cons (.var 5) (.cons (.var 6) .nil)))) (.cons (.var 2) (.cons (.var 3) .nil)))))) .nil))) .nil)) (.cons (.set 10 (.call 332 (.cons (.op .shl (.var 4) (.op .mul (.ix (.var 0) (.int 0)) (.var 2))) (.cons (.var 5) .nil)))) (.cons (.expr (.mt .append (.var 8) (.cons (.call 99 (.cons (.tup (.cons (.op .fdiv (.op .shl (.var 4) (.op .mul (.ix (.var 0) (.int 0)) (.var 2))) (.var 10)) (.cons (.op .fdiv (.var 5) (.var 10)) .nil))) (.cons (.var 3) .nil))) .nil))) (.cons (.ret (.cmp .eq (.blt .repr (.cons (.var 8) .nil)) (.blt .repr (.cons (.op .mul (.lst (.cons (.var 7) .nil)) (.int 7)) .nil)))) .nil)))))))
def lf_is_told_3 : Fd := ⟨["scheme", "operands", "m", "mode", "x", "d", "n", "due", "told", "p", "by"], ["scheme", "operands", "m", "mode"], lb_is_told_3, none⟩
def lb_far_0 : SL := (.cons (.ret (.op .mod (.blt .int (.cons (.op .add (.op .add (.op .shl (.call 201 (.cons (.var 0) (.cons (.int 262144) .nil))) (.int 36)) (.op .shl (.call 201 (.cons (.var 0) (.cons (.int 262144) .nil))) (.int 18))) (.call 201 (.cons (.var 0) (.cons (.int 262144) .nil)))) .nil)) (.var 1))) .nil)
def lf_far_0 : Fd := ⟨["deck", "many"], ["deck", "many"], lb_far_0, none⟩
def lb_common_1 : SL := (.cons (.par2 0 1 (.blt .abs (.cons (.var 0) .nil)) (.blt .abs (.cons (.var 1) .nil))) (.cons (.while (.cmp .ne (.var 1) (.int 0)) (.cons (.par2 0 1 (.var 1) (.op .mod (.blt .int (.cons (.var 0) .nil)) (.var 1))) .nil)) (.cons (.ret (.var 0)) .nil)))
def lf_common_1 : Fd := ⟨["one", "other"], ["one", "other"], lb_common_1, none⟩
def lb_rounded_0 : SL := (.cons (.set 3 (.op .fdiv (.var 0) (.var 1))) (.cons (.set 4 (.op .sub (.var 0) (.op .mul (.var 3) (.var 1)))) (.cons (.ite (.or (.cmp .eq (.var 4) (.int 0)) (.cmp .eq (.var 2) (.str "down"))) (.cons (.ret (.var 3)) .nil) .nil) (.cons (.ite (.cmp .eq (.var 2) (.str "even")) (.cons (.ret (.op .add (.var 3) (.ite (.or (.cmp .gt (.op .mul (.int 2) (.var 4)) (.var 1)) (.and (.cmp .eq (.op .mul (.int 2) (.var 4)) (.var 1)) (.cmp .eq (.op .mod (.blt .int (.cons (.var 3) .nil)) (.int 2)) (.int 1)))) (.int 1) (.int 0)))) .nil) .nil) (.cons (.ret (.ite (.or (.cmp .eq (.var 2) (.str "up")) (.cmp .lt (.var 0) (.int 0))) (.op .add (.var 3) (.int 1)) (.var 3))) .nil)))))
def lf_rounded_0 : Fd := ⟨["top", "bottom", "mode", "down", "left"], ["top", "bottom", "mode"], lb_rounded_0, none⟩
end Q
end

section
set_option Elab.async false
set_option linter.all false
set_option maxRecDepth 100000
set_option maxHeartbeats 4000000
set_option autoImplicit false
set_option exponentiation.threshold 2000
/-! The laws' common functions. -/
namespace Q
open PySem L2
abbrev Dr (T : PT) : Prop := ∀ (fu k : Nat), DrawQ T fu (k + 1) 201 "left"
abbrev Pk (T : PT) : Prop := ∀ (fu k : Nat), PickQ T fu (k + 2) 203 "left"
abbrev Pw (T : PT) : Prop := ∀ (fu k : Nat) (st : Sto) (b e : Int), b.natAbs < 2 ^ 32 → 0 ≤ e ∧ e ≤ 1000 → callF T fu (k + 1) 204 [.int b, .int e] (lv st) = .ok (.int (b ^ e.toNat)) (lv st)
abbrev Tw (T : PT) : Prop := ∀ (fu k : Nat) (st : Sto) (e : Int), 0 ≤ e ∧ e ≤ 1000 → callF T fu (k + 2) 205 [.int e] (lv st) = .ok (.int (2 ^ e.toNat)) (lv st)
abbrev LSc (T : PT) : Prop := ∀ (fu k : Nat) (st : Sto) (n m : Nat) (B : Int), Dq "left" st n m (B + 1) → 0 ≤ B → EnsR (callF T fu (k + 3) 206 [.loc n] (lv st)) fun d s => (∃ k a, d = sch k a ∧ Sc k a) ∧ Dq "left" s n m B ∧ Fr n m st s
section
variable {T : PT} {fu n k : Nat} {st : Sto}
theorem pk_of (dr : Dr T) (h : T.fd.lookup 203 = some lf_pick_0) : Pk T := fun fu k => pickQ (F := lf_pick_0) h rfl rfl (dr fu k)
theorem pw_of (h : T.fd.lookup 204 = some lf_power_0) : Pw T := fun fu k st b e h1 h2 => powQ (F := lf_power_0) h rfl rfl h1 h2
theorem tw_of (pw : Pw T) (h : T.fd.lookup 205 = some lf_two_0) : Tw T := fun fu k st e h2 => by
  rw [c_in (F := lf_two_0) h]
  simp only [evAll0, evAll1, evAll2, evAll3, evAll4, evAll5, evAll6, Bool.not_true, Bool.not_false, decide_true, decide_false, mk_ft, Option.map_some, List.cons_append, List.nil_append, env0, List.map_cons, List.map_nil, List.length_cons, List.length_nil, List.reduceReplicate, Nat.reduceAdd, Nat.reduceSub, Nat.zero_add, List.append_nil, Nat.reduceLeDiff, Int.reduceEq, Int.reduceLT, Int.reduceLE, Int.reduceGT, Int.reduceGE, Int.reduceNe, i_tup, lf_two_0, lb_two_0, pw fu k st 2 e (by decide) h2]
theorem sc_of (pk : Pk T) (h : T.fd.lookup 206 = some lf_scheme_0) : LSc T := fun fu k st n m B D0 hB => by
  rw [c_in (F := lf_scheme_0) h]
  simp only [evAll0, evAll1, evAll2, evAll3, evAll4, evAll5, evAll6, Bool.not_true, Bool.not_false, decide_true, decide_false, mk_ft, Option.map_some, List.cons_append, List.nil_append, env0, List.map_cons, List.map_nil, List.length_cons, List.length_nil, List.reduceReplicate, Nat.reduceAdd, Nat.reduceSub, Nat.zero_add, List.append_nil, Nat.reduceLeDiff, Int.reduceEq, Int.reduceLT, Int.reduceLE, Int.reduceGT, Int.reduceGE, Int.reduceNe, i_tup, lf_scheme_0, lb_scheme_0]
  refine ((pk fu k).new D0 hB (by simp) (by simp)).imp fun d s h => ?_
  obtain ⟨h1, h2, h3⟩ := h
  refine ⟨?_, h2, h3⟩
  simp only [List.mem_cons, List.not_mem_nil, or_false] at h1
  rcases h1 with rfl | rfl | rfl | rfl | rfl | rfl | rfl <;> exact ⟨_, _, rfl, ⟨by decide, by decide, by decide, by decide⟩⟩
theorem pow_bits {r : Int} (hr : 0 ≤ r ∧ r ≤ 8) {j : Nat} (hj : j ≤ 1000) : bits (r ^ j) < 5000 := by
  refine bits_lt ?_ (by omega)
  rw [Int.natAbs_pow]
  calc r.natAbs ^ j ≤ (2 ^ 3) ^ j := Nat.pow_le_pow_left (by omega) _
    _ = 2 ^ (3 * j) := by rw [← Nat.pow_mul]
    _ < 2 ^ 5000 := Nat.pow_lt_pow_right (by omega) (by omega)
theorem lval_e (tw : Tw T) (hT : T.fd.lookup 213 = some lf_value_0) {k a : Int} {l : List Int} (h : Sc k a) (hd : ∀ d ∈ l, d.natAbs ≤ 8) (hl : l.length ≤ 100) : callF T fu (n + 4) 213 [sch k a, .tup (l.map D.int)] (lv st) = .ok (.int (hv (2 ^ k.toNat) l)) (lv st) := by
  have hk1 := h.k1
  have hk3 := h.k3
  have hrc := r_cases hk1 hk3
  rw [c_in (F := lf_value_0) hT]
  apply EnsR.eq
  simp only [evAll0, evAll1, evAll2, evAll3, evAll4, evAll5, evAll6, Bool.not_true, Bool.not_false, decide_true, decide_false, mk_ft, Option.map_some, List.cons_append, List.nil_append, env0, List.map_cons, List.map_nil, List.length_cons, List.length_nil, List.reduceReplicate, Nat.reduceAdd, Nat.reduceSub, Nat.zero_add, List.append_nil, Nat.reduceLeDiff, Int.reduceEq, Int.reduceLT, Int.reduceLE, Int.reduceGT, Int.reduceGE, Int.reduceNe, i_tup, lf_value_0, lb_value_0, s_for, rv_tup, en_tup]
  refine n_loop (fun i env s => s = st ∧ i ≤ l.length ∧ ∃ z1 z2, env = [some (sch k a), some (.tup (l.map D.int)), some (.int (hv (2 ^ k.toNat) (l.drop (l.length - i)))), z1, z2]) ⟨rfl, Nat.zero_le _, none, none, by simp [hv]⟩ (fun i env s hi h => ?_) (fun env s h => ?_)
  · obtain ⟨rfl, h1, z1, z2, rfl⟩ := h
    have hi : i < l.length := by simpa [itEn, itTup] using hi
    have hj : l.length - 1 - i < l.length := by omega
    have ei : (itEn (itTup (l.map D.int).reverse)).item i s = some (.tup [.int (i : Nat), .int (l[l.length - 1 - i])]) := by
      have : (l.map D.int).reverse[i]? = some (.int (l[l.length - 1 - i])) := by
        rw [List.getElem?_reverse (by simpa using hi), List.getElem?_map, List.length_map, List.getElem?_eq_getElem hj]
        rfl
      simp [itEn, itTup, this]
    have hx := hd _ (List.getElem_mem hj)
    obtain ⟨x, hxx⟩ : ∃ x, x = l[l.length - 1 - i] := ⟨_, rfl⟩
    rw [← hxx] at ei hx
    have e2 : l.drop (l.length - (i + 1)) = x :: l.drop (l.length - i) := by
      have : l.length - (i + 1) = l.length - 1 - i := by omega
      rw [this, List.drop_eq_getElem_cons hj, hxx]
      congr 2
      omega
    have e3 : (l.drop (l.length - i)).length = i := by rw [List.length_drop]; omega
    have b1 : bits k + bits (i : Int) < 1000000 := by
      have e1 : bits k < 64 := bits_small (by omega)
      have e2 : bits (i : Int) < 64 := bits_small (by omega)
      omega
    have hki : 0 ≤ k * i ∧ k * i ≤ 1000 := by
      have := Int.mul_nonneg (show 0 ≤ k by omega) (show (0 : Int) ≤ i by omega)
      have e1 : k * i ≤ 3 * i := Int.mul_le_mul_of_nonneg_right hk3 (by omega)
      omega
    have b2 : bits x + bits (((2 : Int) ^ k.toNat) ^ i) < 1000000 := by
      have e1 : bits x < 64 := bits_small (by omega)
      have e2 := pow_bits (r := 2 ^ k.toNat) (by omega) (j := i) (by omega)
      omega
    refine ⟨_, _, ei, by simp only [tp2, g_cons, g_nm, g_nil, ob_bind, set_z, set_s]; rfl, ?_⟩
    simp only [evAll0, evAll1, evAll2, evAll3, evAll4, evAll5, evAll6, Bool.not_true, Bool.not_false, decide_true, decide_false, mk_ft, Option.map_some, List.cons_append, List.nil_append, env0, List.map_cons, List.map_nil, List.length_cons, List.length_nil, List.reduceReplicate, Nat.reduceAdd, Nat.reduceSub, Nat.zero_add, List.append_nil, Nat.reduceLeDiff, Int.reduceEq, Int.reduceLT, Int.reduceLE, Int.reduceGT, Int.reduceGE, Int.reduceNe, i_tup, p_mul b1, tw fu (n + 1) s (k * i) hki, pow_two_mul k (by omega) i, p_mul b2]
    refine ⟨rfl, hi, some (.int i), some (.int x), ?_⟩
    rw [e2, hv_cons, e3, Int.add_comm]
  · obtain ⟨rfl, h1, z1, z2, rfl⟩ := h
    have e : (itEn (itTup (l.map D.int).reverse)).n = l.length := by simp [itEn, itTup]
    refine ⟨rfl, ?_⟩
    simp only [evAll0, evAll1, evAll2, evAll3, evAll4, evAll5, evAll6, Bool.not_true, Bool.not_false, decide_true, decide_false, mk_ft, Option.map_some, List.cons_append, List.nil_append, env0, List.map_cons, List.map_nil, List.length_cons, List.length_nil, List.reduceReplicate, Nat.reduceAdd, Nat.reduceSub, Nat.zero_add, List.append_nil, Nat.reduceLeDiff, Int.reduceEq, Int.reduceLT, Int.reduceLE, Int.reduceGT, Int.reduceGE, Int.reduceNe, i_tup]
    simp [e]
theorem lmost_e (tw : Tw T) (hV : T.fd.lookup 213 = some lf_value_0) (hT : T.fd.lookup 214 = some lf_most_0) {k a m : Int} (h : Sc k a) (hm : 0 ≤ m ∧ m ≤ 100) : callF T fu (n + 5) 214 [sch k a, .int m] (lv st) = .ok (.int (top (2 ^ k.toNat) a m.toNat)) (lv st) := by
  have hk3 := h.k3
  have hk1 := h.k1
  have hrc := r_cases hk1 hk3
  have ha := h.hi
  have hlo := h.lo
  rw [c_in (F := lf_most_0) hT]
  have e : List.replicate m.toNat (D.int a) = (List.replicate m.toNat a).map D.int := by simp
  simp only [evAll0, evAll1, evAll2, evAll3, evAll4, evAll5, evAll6, Bool.not_true, Bool.not_false, decide_true, decide_false, mk_ft, Option.map_some, List.cons_append, List.nil_append, env0, List.map_cons, List.map_nil, List.length_cons, List.length_nil, List.reduceReplicate, Nat.reduceAdd, Nat.reduceSub, Nat.zero_add, List.append_nil, Nat.reduceLeDiff, Int.reduceEq, Int.reduceLT, Int.reduceLE, Int.reduceGT, Int.reduceGE, Int.reduceNe, i_tup, lf_most_0, lb_most_0, p_rep (x := .int a) (m := m) ⟨hm.1, by omega⟩, e, lval_e (n := n) tw hV (l := List.replicate m.toNat a) h (fun d hd => by rw [List.eq_of_mem_replicate hd]; omega) (by simp; omega)]
  rfl
/-- a drawn string -/
theorem string_e (dr : Dr T) (pk : Pk T) (hT : T.fd.lookup 215 = some lf_string_0) {n0 m0 : Nat} {B k a m : Int} (h : Sc k a) (hm : 0 ≤ m ∧ m ≤ 50) (D0 : Dq "left" st n0 m0 (B + 60)) (hB : 0 ≤ B) : EnsR (callF T fu (n + 4) 215 [.loc n0, sch k a, .int m] (lv st)) fun d s => (∃ l : List Int, d = .tup (l.map D.int) ∧ l.length = m.toNat ∧ ∀ i ∈ l, (i.natAbs : Int) ≤ a) ∧ Dq "left" s n0 m0 B ∧ Fr n0 m0 st s := by
  have hk3 := h.k3
  have hk1 := h.k1
  have hrc := r_cases hk1 hk3
  have ha := h.hi
  have hlo := h.lo
  rw [c_in (F := lf_string_0) hT]
  simp only [evAll0, evAll1, evAll2, evAll3, evAll4, evAll5, evAll6, Bool.not_true, Bool.not_false, decide_true, decide_false, mk_ft, Option.map_some, List.cons_append, List.nil_append, env0, List.map_cons, List.map_nil, List.length_cons, List.length_nil, List.reduceReplicate, Nat.reduceAdd, Nat.reduceSub, Nat.zero_add, List.append_nil, Nat.reduceLeDiff, Int.reduceEq, Int.reduceLT, Int.reduceLE, Int.reduceGT, Int.reduceGE, Int.reduceNe, i_tup, lf_string_0, lb_string_0]
  refine (dr fu (n + 2) st n0 m0 (B + 59) 3 (by rw [show B + 59 + 1 = B + 60 by omega]; exact D0) (by omega) (by omega) (by omega)).imp fun d s1 h => ?_
  obtain ⟨w, rfl, w0, w1, D1, F1⟩ := h
  have lt1 := D1.lt
  by_cases c0 : w = 0
  · simp only [evAll0, evAll1, evAll2, evAll3, evAll4, evAll5, evAll6, Bool.not_true, Bool.not_false, decide_true, decide_false, mk_ft, Option.map_some, List.cons_append, List.nil_append, env0, List.map_cons, List.map_nil, List.length_cons, List.length_nil, List.reduceReplicate, Nat.reduceAdd, Nat.reduceSub, Nat.zero_add, List.append_nil, Nat.reduceLeDiff, Int.reduceEq, Int.reduceLT, Int.reduceLE, Int.reduceGT, Int.reduceGE, Int.reduceNe, i_tup, c0, e_lc, r1_e (j := m) (by omega)]
    refine (lc_draws (key := "left") (n := n0) (m := m0) (B := B) (c := 1) (len := m.toNat) (Pd := fun x => ∃ i : Int, x = .int i ∧ (i.natAbs : Int) ≤ a) (fun _ _ => ot_none) (D1.le (by omega)) (by omega) (by omega) (by omega) fun j s B2 hj D hB2 F => ?_).imp fun d s2 h => ?_
    · simp only [evAll0, evAll1, evAll2, evAll3, evAll4, evAll5, evAll6, Bool.not_true, Bool.not_false, decide_true, decide_false, mk_ft, Option.map_some, List.cons_append, List.nil_append, env0, List.map_cons, List.map_nil, List.length_cons, List.length_nil, List.reduceReplicate, Nat.reduceAdd, Nat.reduceSub, Nat.zero_add, List.append_nil, Nat.reduceLeDiff, Int.reduceEq, Int.reduceLT, Int.reduceLE, Int.reduceGT, Int.reduceGE, Int.reduceNe, i_tup]
      refine ((pk fu (n + 1)).new D hB2 (by simp) (by simp)).mono fun d s2 h => ?_
      obtain ⟨h1, h2, h3⟩ := h
      refine ⟨?_, h2, h3⟩
      simp only [List.mem_cons, List.not_mem_nil, or_false] at h1
      rcases h1 with rfl | rfl | rfl | rfl <;> exact ⟨_, rfl, by omega⟩
    · obtain ⟨ds, rfl, hl, hlen, hds, D2, F2⟩ := h
      obtain ⟨l, rfl, hl2⟩ := ints_of hds
      simp only [evAll0, evAll1, evAll2, evAll3, evAll4, evAll5, evAll6, Bool.not_true, Bool.not_false, decide_true, decide_false, mk_ft, Option.map_some, List.cons_append, List.nil_append, env0, List.map_cons, List.map_nil, List.length_cons, List.length_nil, List.reduceReplicate, Nat.reduceAdd, Nat.reduceSub, Nat.zero_add, List.append_nil, Nat.reduceLeDiff, Int.reduceEq, Int.reduceLT, Int.reduceLE, Int.reduceGT, Int.reduceGE, Int.reduceNe, i_tup, b_tuple hl]
      exact ⟨⟨l, rfl, by simpa using hlen, hl2⟩, D2, F1.trans F2⟩
  · have b1 : bits 2 + bits a < 1000000 := by
      have e1 : bits a < 64 := bits_small (by omega)
      have e2 : bits 2 < 64 := by decide
      omega
    simp only [evAll0, evAll1, evAll2, evAll3, evAll4, evAll5, evAll6, Bool.not_true, Bool.not_false, decide_true, decide_false, mk_ft, Option.map_some, List.cons_append, List.nil_append, env0, List.map_cons, List.map_nil, List.length_cons, List.length_nil, List.reduceReplicate, Nat.reduceAdd, Nat.reduceSub, Nat.zero_add, List.append_nil, Nat.reduceLeDiff, Int.reduceEq, Int.reduceLT, Int.reduceLE, Int.reduceGT, Int.reduceGE, Int.reduceNe, i_tup, c0, e_lc, r1_e (j := m) (by omega)]
    refine (lc_draws (key := "left") (n := n0) (m := m0) (B := B) (c := 1) (len := m.toNat) (Pd := fun x => ∃ i : Int, x = .int i ∧ (i.natAbs : Int) ≤ a) (fun _ _ => ot_none) (D1.le (by omega)) (by omega) (by omega) (by omega) fun j s B2 hj D hB2 F => ?_).imp fun d s2 h => ?_
    · simp only [evAll0, evAll1, evAll2, evAll3, evAll4, evAll5, evAll6, Bool.not_true, Bool.not_false, decide_true, decide_false, mk_ft, Option.map_some, List.cons_append, List.nil_append, env0, List.map_cons, List.map_nil, List.length_cons, List.length_nil, List.reduceReplicate, Nat.reduceAdd, Nat.reduceSub, Nat.zero_add, List.append_nil, Nat.reduceLeDiff, Int.reduceEq, Int.reduceLT, Int.reduceLE, Int.reduceGT, Int.reduceGE, Int.reduceNe, i_tup, p_mul b1]
      refine (dr fu (n + 2) s n0 m0 B2 (2 * a + 1) D hB2 (by omega) (by omega)).imp fun d s2 h => ?_
      obtain ⟨r, rfl, r0, r1, h2, h3⟩ := h
      simp only [evAll0, evAll1, evAll2, evAll3, evAll4, evAll5, evAll6, Bool.not_true, Bool.not_false, decide_true, decide_false, mk_ft, Option.map_some, List.cons_append, List.nil_append, env0, List.map_cons, List.map_nil, List.length_cons, List.length_nil, List.reduceReplicate, Nat.reduceAdd, Nat.reduceSub, Nat.zero_add, List.append_nil, Nat.reduceLeDiff, Int.reduceEq, Int.reduceLT, Int.reduceLE, Int.reduceGT, Int.reduceGE, Int.reduceNe, i_tup]
      exact ⟨⟨_, rfl, by omega⟩, h2, h3⟩
    · obtain ⟨ds, rfl, hl, hlen, hds, D2, F2⟩ := h
      obtain ⟨l, rfl, hl2⟩ := ints_of hds
      simp only [evAll0, evAll1, evAll2, evAll3, evAll4, evAll5, evAll6, Bool.not_true, Bool.not_false, decide_true, decide_false, mk_ft, Option.map_some, List.cons_append, List.nil_append, env0, List.map_cons, List.map_nil, List.length_cons, List.length_nil, List.reduceReplicate, Nat.reduceAdd, Nat.reduceSub, Nat.zero_add, List.append_nil, Nat.reduceLeDiff, Int.reduceEq, Int.reduceLT, Int.reduceLE, Int.reduceGT, Int.reduceGE, Int.reduceNe, i_tup, b_tuple hl]
      exact ⟨⟨l, rfl, by simpa using hlen, hl2⟩, D2, F1.trans F2⟩
theorem held_e (hT : T.fd.lookup 224 = some lf_held_0) {r : Int} {l : List Int} (hr : 0 ≤ r ∧ r ≤ 8) (hd : ∀ d ∈ l, d.natAbs ≤ 8) (hl : l.length ≤ 100) : callF T fu (k + 1) 224 [.int r, .tup (l.map D.int)] (lv st) = .ok (.int (hv r l)) (lv st) := by
  rw [c_in (F := lf_held_0) hT]
  apply EnsR.eq
  simp only [evAll0, evAll1, evAll2, evAll3, evAll4, evAll5, evAll6, Bool.not_true, Bool.not_false, decide_true, decide_false, mk_ft, Option.map_some, List.cons_append, List.nil_append, env0, List.map_cons, List.map_nil, List.length_cons, List.length_nil, List.reduceReplicate, Nat.reduceAdd, Nat.reduceSub, Nat.zero_add, List.append_nil, Nat.reduceLeDiff, Int.reduceEq, Int.reduceLT, Int.reduceLE, Int.reduceGT, Int.reduceGE, Int.reduceNe, i_tup, lf_held_0, lb_held_0, s_for, i_tup]
  refine n_loop (fun i env s => s = st ∧ i ≤ l.length ∧ ∃ z, env = [some (.int r), some (.tup (l.map D.int)), some (.int (hv r (l.take i))), z]) ⟨rfl, Nat.zero_le _, none, by simp [hv]⟩ (fun i env s hi h => ?_) (fun env s h => ?_)
  · obtain ⟨rfl, h1, z, rfl⟩ := h
    have hi : i < l.length := by simpa [itTup] using hi
    have b1 := hv_bound hr i (l.take i) (by rw [List.length_take]; omega) fun d h => hd d (List.mem_of_mem_take h)
    have b2 : bits (hv r (l.take i)) + bits r < 1000000 := by
      have e1 : bits (hv r (l.take i)) < 500 := bits_lt (Nat.lt_of_le_of_lt b1 (by
        rw [show (16 : Nat) = 2 ^ 4 from rfl, ← Nat.pow_mul]
        exact Nat.pow_lt_pow_right (by omega) (by omega))) (by omega)
      have e2 : bits r < 64 := bits_small (by omega)
      omega
    refine ⟨.int l[i], _, by simp [itTup, hi], g_nm, ?_⟩
    simp only [evAll0, evAll1, evAll2, evAll3, evAll4, evAll5, evAll6, Bool.not_true, Bool.not_false, decide_true, decide_false, mk_ft, Option.map_some, List.cons_append, List.nil_append, env0, List.map_cons, List.map_nil, List.length_cons, List.length_nil, List.reduceReplicate, Nat.reduceAdd, Nat.reduceSub, Nat.zero_add, List.append_nil, Nat.reduceLeDiff, Int.reduceEq, Int.reduceLT, Int.reduceLE, Int.reduceGT, Int.reduceGE, Int.reduceNe, i_tup, p_mul b2]
    refine ⟨rfl, hi, some (.int l[i]), ?_⟩
    rw [List.take_succ_eq_append_getElem hi, hv_snoc]
  · obtain ⟨rfl, h1, z, rfl⟩ := h
    refine ⟨rfl, ?_⟩
    simp only [evAll0, evAll1, evAll2, evAll3, evAll4, evAll5, evAll6, Bool.not_true, Bool.not_false, decide_true, decide_false, mk_ft, Option.map_some, List.cons_append, List.nil_append, env0, List.map_cons, List.map_nil, List.length_cons, List.length_nil, List.reduceReplicate, Nat.reduceAdd, Nat.reduceSub, Nat.zero_add, List.append_nil, Nat.reduceLeDiff, Int.reduceEq, Int.reduceLT, Int.reduceLE, Int.reduceGT, Int.reduceGE, Int.reduceNe, i_tup]
    simp [itTup]
theorem big_ok {r : Int} {l : List Int} (hr : 0 ≤ r ∧ r ≤ 8) (h : ∀ d ∈ l, d.natAbs ≤ 8) (hl : l.length ≤ 100) : (hv r l).natAbs < 2 ^ 1900 := by
  refine Nat.lt_of_le_of_lt (hv_bound hr l.length l rfl h) ?_
  rw [show (16 : Nat) = 2 ^ 4 from rfl, ← Nat.pow_mul]
  exact Nat.pow_lt_pow_right (by omega) (by omega)
theorem rp1 {i : Int} {s : Sto} (h : i.natAbs < 2 ^ 1900) : bfD .repr [.int i] (lv s) = some (.str (PyData.int i).shown, lv s) := (rp_int (st := lv s) (k := 0) h).b (by omega) (by omega)
theorem rp2 {i j : Int} {s : Sto} (h : i.natAbs < 2 ^ 1900) (h2 : j.natAbs < 2 ^ 1900) : bfD .repr [.tup [.int i, .int j]] (lv s) = some (.str (PyData.tuple [.int i, .int j]).shown, lv s) := (rp_tup (.cons (rp_int (st := lv s) (k := 0) h) (.cons (rp_int h2) .nil))).b (by omega) (by simp)
theorem rev_range {α : Type} (f : Nat → α) (m : Nat) : ((List.range m).map f).reverse = (List.range m).map fun p => f (m - 1 - p) := by
  apply List.ext_getElem
  · simp
  · intro i h1 h2
    simp
theorem places_e (hT : T.fd.lookup 223 = some lf_places_0) {r N m : Int} (hr : 0 < r) (hb : r < 2 ^ 60) (hm : 0 ≤ m ∧ m ≤ 9999) : EnsR (callF T fu (k + 1) 223 [.int r, .int N, .int m] (lv st)) fun d s => d = .tup ((dg r m.toNat N).map D.int) ∧ ∃ more, s = st ++ more := by
  rw [c_in (F := lf_places_0) hT]
  have hb2 : bits r < 9000 := Nat.lt_of_lt_of_le (bits_small (by omega)) (by omega)
  simp only [evAll0, evAll1, evAll2, evAll3, evAll4, evAll5, evAll6, Bool.not_true, Bool.not_false, decide_true, decide_false, mk_ft, Option.map_some, List.cons_append, List.nil_append, env0, List.map_cons, List.map_nil, List.length_cons, List.length_nil, List.reduceReplicate, Nat.reduceAdd, Nat.reduceSub, Nat.zero_add, List.append_nil, Nat.reduceLeDiff, Int.reduceEq, Int.reduceLT, Int.reduceLE, Int.reduceGT, Int.reduceGE, Int.reduceNe, i_tup, lf_places_0, lb_places_0, s_for, r1_e (j := m) (by omega)]
  refine n_loop (fun i env s => ∃ z, env = [some (.int r), some (.int (N / r ^ i)), some (.int m), some (.loc st.length), z] ∧ s = st ++ [.lst ((List.range i).map fun j => .int (N / r ^ j % r))] ∧ i ≤ m.toNat) ⟨none, by simp, rfl, Nat.zero_le _⟩ (fun i env s hi h => ?_) (fun env s h => ?_)
  · obtain ⟨z, rfl, rfl, h1⟩ := h
    have hi : i < m.toNat := hi
    refine ⟨_, _, rfl, g_nm, ?_⟩
    have hl : (st ++ [Ob.lst ((List.range i).map fun j => D.int (N / r ^ j % r))])[st.length]? = some (.lst ((List.range i).map fun j => D.int (N / r ^ j % r))) := len_app
    simp only [evAll0, evAll1, evAll2, evAll3, evAll4, evAll5, evAll6, Bool.not_true, Bool.not_false, decide_true, decide_false, mk_ft, Option.map_some, List.cons_append, List.nil_append, env0, List.map_cons, List.map_nil, List.length_cons, List.length_nil, List.reduceReplicate, Nat.reduceAdd, Nat.reduceSub, Nat.zero_add, List.append_nil, Nat.reduceLeDiff, Int.reduceEq, Int.reduceLT, Int.reduceLE, Int.reduceGT, Int.reduceGE, Int.reduceNe, i_tup, p_mod hr, is_l hl, m_app hl (d := .int (N / r ^ i % r)) (by rw [List.length_map, List.length_range]; omega), p_fdiv ⟨hr, hb2⟩]
    refine ⟨some (.int (0 + (i : Int) * 1)), ?_, ?_, hi⟩
    · rw [Int.pow_succ, Int.ediv_ediv_of_nonneg (Int.le_of_lt (Int.pow_pos hr))]
    · show List.set (st ++ [_]) st.length _ = _
      rw [set_last, List.range_succ, List.map_append]
      rfl
  · obtain ⟨z, rfl, rfl, h1⟩ := h
    refine ⟨rfl, ?_⟩
    have hl : (st ++ [Ob.lst ((List.range m.toNat).map fun j => D.int (N / r ^ j % r))])[st.length]? = some (.lst ((List.range m.toNat).map fun j => D.int (N / r ^ j % r))) := len_app
    have hn : (itRng 0 1 m.toNat).n = m.toNat := rfl
    simp only [evAll0, evAll1, evAll2, evAll3, evAll4, evAll5, evAll6, Bool.not_true, Bool.not_false, decide_true, decide_false, mk_ft, Option.map_some, List.cons_append, List.nil_append, env0, List.map_cons, List.map_nil, List.length_cons, List.length_nil, List.reduceReplicate, Nat.reduceAdd, Nat.reduceSub, Nat.zero_add, List.append_nil, Nat.reduceLeDiff, Int.reduceEq, Int.reduceLT, Int.reduceLE, Int.reduceGT, Int.reduceGE, Int.reduceNe, i_tup, hn, rev_loc hl, b_tupleA]
    refine ⟨?_, _, List.append_assoc _ _ _⟩
    rw [rev_range, dg, List.map_map]
    rfl
end
end Q
end

section
set_option Elab.async false
set_option linter.all false
set_option maxRecDepth 100000
set_option maxHeartbeats 4000000
set_option autoImplicit false
set_option exponentiation.threshold 2000
/-! Operands, and rounding. -/
namespace Q
open PySem L2
/-- remainders of the two kinds, and what they stand for -/
inductive RemV : Str → D → Int → Prop
  | one (x : Int) : RemV "one" (.int x) x
  | pair (u v : Int) : RemV "pair" (.tup [.int u, .int v]) (u + v)
/-- a divisor and its width -/
structure Dv (d n : Int) : Prop where
  n1 : 1 ≤ n
  n2 : n ≤ 60
  lo : 2 ^ n.toNat ≤ d
  hi : d < 2 ^ (n.toNat + 1)
theorem Dv.pos {d n : Int} (h : Dv d n) : 0 < d := Int.lt_of_lt_of_le (Int.pow_pos (by omega)) h.lo
theorem Dv.big {d n : Int} (h : Dv d n) : d < 2 ^ 61 := by
  have e : (2 : Int) ^ (n.toNat + 1) ≤ 2 ^ 61 := by
    have := h.n2
    have := Nat.pow_le_pow_right (n := 2) (by omega) (show n.toNat + 1 ≤ 61 by omega)
    exact_mod_cast this
  exact Int.lt_of_lt_of_le h.hi e
theorem Dv.bits {d n : Int} (h : Dv d n) : Q.bits d < 64 := bits_small (by have := h.pos; have := h.big; omega)
theorem Dv.len {d n : Int} (h : Dv d n) : (Builtin.Int.intBits d : Int) = n + 1 := by
  have h1 : Builtin.Int.intBits d ≤ n.toNat + 1 := intBits_le_iff.mpr (by
    have := h.hi
    have hp := h.pos
    have e : ((2 ^ (n.toNat + 1) : Nat) : Int) = 2 ^ (n.toNat + 1) := by push_cast; rfl
    omega)
  have h2 : ¬ Builtin.Int.intBits d ≤ n.toNat := fun z => by
    have q := intBits_le_iff.mp z
    have := h.lo
    have hp := h.pos
    have e : ((2 ^ n.toNat : Nat) : Int) = 2 ^ n.toNat := by push_cast; rfl
    omega
  have := h.n1
  omega
/-- operands' dividend -/
structure Opd (k a w d n : Int) : Prop extends Dv d n where
  wi : (w.natAbs : Int) * (2 ^ k.toNat - 1) ≤ a * d
theorem Opd.wbig {k a w d n : Int} (h : Opd k a w d n) (s : Sc k a) : (w.natAbs : Int) < 2 ^ 64 := by
  have h1 := r_cases s.k1 s.k3
  have h2 := s.hi
  have h3 := s.lo
  have ha : a ≤ 7 := by omega
  have hp := h.pos
  have hb := h.big
  have e1 : (w.natAbs : Int) * 1 ≤ (w.natAbs : Int) * (2 ^ k.toNat - 1) := Int.mul_le_mul_of_nonneg_left (by omega) (by omega)
  have e2 : a * d ≤ 7 * d := Int.mul_le_mul_of_nonneg_right ha (by omega)
  have := h.wi
  omega
def modes : List Str := ["down", "up", "zero", "even"]
/-- rounding down, up, towards zero or to the even one -/
def chs (mo : Str) (q w d : Int) : Int :=
  if w = 0 ∨ mo = "down" then q else if mo = "up" then q + 1 else if mo = "zero" then (if q < 0 then q + 1 else q)
  else if 2 * w > d ∨ (2 * w = d ∧ q % 2 = 1) then q + 1 else q
def rnd (mo : Str) (t d : Int) : Int := chs mo (t / d) (t - t / d * d) d
section
variable {T : PT} (P : Pg T) {fu n : Nat} {st : Sto}
include P
omit P in
theorem in_str {x : Str} {ys : List Str} (h : (SeqAt.shaped (.str x) && PyData.canLayAll0 (ys.map PyData.str) && decide ((PyData.str x).depth ≤ 60)) = true) : inD (.str x) (.tup (ys.map D.str)) st = some (.bl ((ys.map PyData.str).any fun z => PyData.eqv z (.str x)), st) := by
  have e : ∀ l : List Str, mapO (toP st 29) (l.map D.str) = some (l.map PyData.str) := fun l => by
    induction l with
    | nil => rfl
    | cons y l ih => simp only [List.map_cons, mapO, toP, ih]
  simp only [Bool.and_eq_true, decide_eq_true_eq] at h
  unfold inD
  simp only [toP, seqP, e]
  rw [if_pos ⟨h.1.1, h.1.2, h.2⟩]
omit P in
theorem in_kd1 : cmD .isin (.str "one") (.tup [.str "one", .str "pair"]) (lv st) = some (.bl true, lv st) := (in_str (ys := ["one", "pair"]) (by decide +kernel)).trans (by congr 2)
omit P in
theorem in_kd2 : cmD .isin (.str "pair") (.tup [.str "one", .str "pair"]) (lv st) = some (.bl true, lv st) := (in_str (ys := ["one", "pair"]) (by decide +kernel)).trans (by congr 2)
omit P in
theorem in_mo {x : Str} (hx : x ∈ modes) : cmD .notin (.str x) (.tup [.str "down", .str "up", .str "zero", .str "even"]) (lv st) = some (.bl false, lv st) := by
  have e : inD (.str x) (.tup [.str "down", .str "up", .str "zero", .str "even"]) (lv st) = some (.bl true, lv st) := by
    simp only [modes, List.mem_cons, List.not_mem_nil, or_false] at hx
    rcases hx with rfl | rfl | rfl | rfl <;> exact (in_str (ys := ["down", "up", "zero", "even"]) (by decide +kernel)).trans (by congr 2)
  simp [cmD, negB, e]
theorem is_kind_e {kd : Str} {x : D} {w : Int} (h : RemV kd x w) : callF T fu (n + 1) 25 [.str kd] (lv st) = .ok (.bl true) (lv st) := by
  rw [c_in (P 25 _ rfl)]
  cases h <;> simp only [evAll0, evAll1, evAll2, evAll3, evAll4, evAll5, evAll6, Bool.not_true, Bool.not_false, decide_true, decide_false, mk_ft, Option.map_some, List.cons_append, List.nil_append, env0, List.map_cons, List.map_nil, List.length_cons, List.length_nil, List.reduceReplicate, Nat.reduceAdd, Nat.reduceSub, Nat.zero_add, List.append_nil, Nat.reduceLeDiff, Int.reduceEq, Int.reduceLT, Int.reduceLE, Int.reduceGT, Int.reduceGE, Int.reduceNe, i_tup, f_is_kind, b_f_is_kind, in_kd1, in_kd2]
theorem need_kind_e {kd : Str} {x : D} {w : Int} (h : RemV kd x w) : callF T fu (n + 2) 26 [.str kd] (lv st) = .ok .non (lv st) := by
  rw [c_in (P 26 _ rfl)]
  simp only [evAll0, evAll1, evAll2, evAll3, evAll4, evAll5, evAll6, Bool.not_true, Bool.not_false, decide_true, decide_false, mk_ft, Option.map_some, List.cons_append, List.nil_append, env0, List.map_cons, List.map_nil, List.length_cons, List.length_nil, List.reduceReplicate, Nat.reduceAdd, Nat.reduceSub, Nat.zero_add, List.append_nil, Nat.reduceLeDiff, Int.reduceEq, Int.reduceLT, Int.reduceLE, Int.reduceGT, Int.reduceGE, Int.reduceNe, i_tup, f_need_kind, b_f_need_kind, is_kind_e P h]
theorem whole_e {kd : Str} {x : D} {w : Int} (h : RemV kd x w) : callF T fu (n + 1) 31 [.str kd, x] (lv st) = .ok (.int w) (lv st) := by
  have e1 : decide (("one" : Str) = "one") = true := by decide
  have e2 : decide (("pair" : Str) = "one") = false := by decide
  rw [c_in (P 31 _ rfl)]
  cases h <;> simp only [evAll0, evAll1, evAll2, evAll3, evAll4, evAll5, evAll6, Bool.not_true, Bool.not_false, decide_true, decide_false, mk_ft, Option.map_some, List.cons_append, List.nil_append, env0, List.map_cons, List.map_nil, List.length_cons, List.length_nil, List.reduceReplicate, Nat.reduceAdd, Nat.reduceSub, Nat.zero_add, List.append_nil, Nat.reduceLeDiff, Int.reduceEq, Int.reduceLT, Int.reduceLE, Int.reduceGT, Int.reduceGE, Int.reduceNe, i_tup, f_whole, b_f_whole, e1, e2]
theorem kd_int {i : Int} {s : Sto} : Kd' (.int i) s := ⟨_, rfl⟩
theorem kd_tup {ds : List D} {s : Sto} : Kd' (.tup ds) s := ⟨_, rfl⟩
theorem is_remainder_e {kd : Str} {x : D} {w : Int} (h : RemV kd x w) : callF T fu (n + 2) 38 [.str kd, x] (lv st) = .ok (.bl true) (lv st) := by
  have e1 : decide (("one" : Str) = "one") = true := by decide
  have e2 : decide (("pair" : Str) = "one") = false := by decide
  have p1 : ∀ {u v : Int} {s : Sto}, callF T fu (n + 1) 2 [.tup [.int u, .int v]] (lv s) = .ok (.bl true) (lv s) := fun {u v s} => is_pair_e P ⟨_, rfl⟩
  have p2 : ∀ {u : Int} {s : Sto}, callF T fu (n + 1) 0 [.int u] (lv s) = .ok (.bl true) (lv s) := fun {u s} => is_integer_e P ⟨_, rfl⟩
  rw [c_in (P 38 _ rfl)]
  cases h <;> simp only [evAll0, evAll1, evAll2, evAll3, evAll4, evAll5, evAll6, Bool.not_true, Bool.not_false, decide_true, decide_false, mk_ft, Option.map_some, List.cons_append, List.nil_append, env0, List.map_cons, List.map_nil, List.length_cons, List.length_nil, List.reduceReplicate, Nat.reduceAdd, Nat.reduceSub, Nat.zero_add, List.append_nil, Nat.reduceLeDiff, Int.reduceEq, Int.reduceLT, Int.reduceLE, Int.reduceGT, Int.reduceGE, Int.reduceNe, i_tup, f_is_remainder, b_f_is_remainder, e1, e2, p1, p2]
theorem is_divisor_e {d m : Int} (h : Dv d m) : callF T fu (n + 2) 39 [.int d, .int m] (lv st) = .ok (.bl true) (lv st) := by
  have p2 : ∀ {u : Int} {s : Sto}, callF T fu (n + 1) 0 [.int u] (lv s) = .ok (.bl true) (lv s) := fun {u s} => is_integer_e P ⟨_, rfl⟩
  have c1 : decide (m ≥ 1) = true := decide_eq_true h.n1
  have c2 : decide (d > 0) = true := decide_eq_true h.pos
  have c3 : decide ((Builtin.Int.intBits d : Int) = m + 1) = true := decide_eq_true h.len
  rw [c_in (P 39 _ rfl)]
  simp only [evAll0, evAll1, evAll2, evAll3, evAll4, evAll5, evAll6, Bool.not_true, Bool.not_false, decide_true, decide_false, mk_ft, Option.map_some, List.cons_append, List.nil_append, env0, List.map_cons, List.map_nil, List.length_cons, List.length_nil, List.reduceReplicate, Nat.reduceAdd, Nat.reduceSub, Nat.zero_add, List.append_nil, Nat.reduceLeDiff, Int.reduceEq, Int.reduceLT, Int.reduceLE, Int.reduceGT, Int.reduceGE, Int.reduceNe, i_tup, f_is_divisor, b_f_is_divisor, p2, c1, c2, c3]
theorem is_within_e {k a w d : Int} (s : Sc k a) (hw : (w.natAbs : Int) < 2 ^ 400) (hd : 0 ≤ d ∧ d < 2 ^ 400) : callF T fu (n + 2) 30 [sch k a, .int w, .int d] (lv st) = .ok (.bl (decide ((w.natAbs : Int) * (2 ^ k.toNat - 1) ≤ a * d))) (lv st) := by
  have h1 := r_cases s.k1 s.k3
  have h2 := s.hi
  have h3 := s.lo
  have hk := s.k1
  have hk3 := s.k3
  have b1 : bits (w.natAbs : Int) + bits (2 ^ k.toNat - 1) < 1000000 := by
    have e1 : bits (w.natAbs : Int) < 400 := bits_lt (by omega) (by omega)
    have e2 : bits ((2 : Int) ^ k.toNat - 1) < 64 := bits_small (by omega)
    omega
  have b2 : bits a + bits d < 1000000 := by
    have e1 : bits d < 400 := bits_lt (by omega) (by omega)
    have e2 : bits a < 64 := bits_small (by omega)
    omega
  rw [c_in (P 30 _ rfl)]
  simp only [evAll0, evAll1, evAll2, evAll3, evAll4, evAll5, evAll6, Bool.not_true, Bool.not_false, decide_true, decide_false, mk_ft, Option.map_some, List.cons_append, List.nil_append, env0, List.map_cons, List.map_nil, List.length_cons, List.length_nil, List.reduceReplicate, Nat.reduceAdd, Nat.reduceSub, Nat.zero_add, List.append_nil, Nat.reduceLeDiff, Int.reduceEq, Int.reduceLT, Int.reduceLE, Int.reduceGT, Int.reduceGE, Int.reduceNe, i_tup, f_is_within, b_f_is_within, radix_e P (show 0 ≤ k by omega) (show k ≤ 1000 by omega), p_mul b1, p_mul b2]
theorem is_operands_e {kd : Str} {x : D} {k a w d m : Int} (s : Sc k a) (h : RemV kd x w) (o : Opd k a w d m) : callF T fu (n + 4) 29 [sch k a, .str kd, .tup [x, .int d, .int m]] (lv st) = .ok (.bl true) (lv st) := by
  have hx : nx x = true := by cases h <;> rfl
  have p1 : ∀ {s : Sto}, callF T fu (n + 3) 3 [.tup [x, .int d, .int m]] (lv s) = .ok (.bl true) (lv s) := fun {s} => is_triple_e P (n := n + 2) ⟨_, rfl⟩
  have w1 : ∀ {s' : Sto}, callF T fu (n + 3) 30 [sch k a, .int w, .int d] (lv s') = .ok (.bl true) (lv s') := fun {s'} => by
    have n1 : (2 : Int) ^ 64 < 2 ^ 400 := by decide +kernel
    have n2 : (2 : Int) ^ 61 < 2 ^ 400 := by decide +kernel
    have q1 := o.wbig s
    have q2 := o.pos
    have q3 := o.big
    rw [is_within_e P (n := n + 1) s (by omega) ⟨by omega, by omega⟩, decide_eq_true o.wi]
  rw [c_in (P 29 _ rfl)]
  simp only [evAll0, evAll1, evAll2, evAll3, evAll4, evAll5, evAll6, Bool.not_true, Bool.not_false, decide_true, decide_false, mk_ft, Option.map_some, List.cons_append, List.nil_append, env0, List.map_cons, List.map_nil, List.length_cons, List.length_nil, List.reduceReplicate, Nat.reduceAdd, Nat.reduceSub, Nat.zero_add, List.append_nil, Nat.reduceLeDiff, Int.reduceEq, Int.reduceLT, Int.reduceLE, Int.reduceGT, Int.reduceGE, Int.reduceNe, i_tup, f_is_operands, b_f_is_operands, hx, need_scheme_e P s, need_kind_e P h, p1, is_remainder_e P h, is_divisor_e P o.toDv, whole_e P h, w1]
theorem need_start_e {kd : Str} {x : D} {k a w d m j : Int} (s : Sc k a) (h : RemV kd x w) (o : Opd k a w d m) (hj : 0 ≤ j) : callF T fu (n + 5) 69 [sch k a, .str kd, .tup [x, .int d, .int m], .int j] (lv st) = .ok .non (lv st) := by
  have p1 : ∀ {s : Sto}, callF T fu (n + 4) 1 [.int j] (lv s) = .ok (.bl true) (lv s) := fun {s} => by
    rw [is_natural_e P (n := n + 2) ⟨_, rfl⟩]
    simp only [decide_eq_true hj]
  rw [c_in (P 69 _ rfl)]
  simp only [evAll0, evAll1, evAll2, evAll3, evAll4, evAll5, evAll6, Bool.not_true, Bool.not_false, decide_true, decide_false, mk_ft, Option.map_some, List.cons_append, List.nil_append, env0, List.map_cons, List.map_nil, List.length_cons, List.length_nil, List.reduceReplicate, Nat.reduceAdd, Nat.reduceSub, Nat.zero_add, List.append_nil, Nat.reduceLeDiff, Int.reduceEq, Int.reduceLT, Int.reduceLE, Int.reduceGT, Int.reduceGE, Int.reduceNe, i_tup, f_need_start, b_f_need_start, is_operands_e P s h o, p1]
theorem need_mode_e {mo : Str} (h : mo ∈ modes) : callF T fu (n + 1) 98 [.str mo] (lv st) = .ok .non (lv st) := by
  rw [c_in (P 98 _ rfl)]
  simp only [evAll0, evAll1, evAll2, evAll3, evAll4, evAll5, evAll6, Bool.not_true, Bool.not_false, decide_true, decide_false, mk_ft, Option.map_some, List.cons_append, List.nil_append, env0, List.map_cons, List.map_nil, List.length_cons, List.length_nil, List.reduceReplicate, Nat.reduceAdd, Nat.reduceSub, Nat.zero_add, List.append_nil, Nat.reduceLeDiff, Int.reduceEq, Int.reduceLT, Int.reduceLE, Int.reduceGT, Int.reduceGE, Int.reduceNe, i_tup, f_need_mode, b_f_need_mode, in_mo h]
theorem chosen_e {mo : Str} {q w d : Int} (h : mo ∈ modes) (hw : (w.natAbs : Int) < 2 ^ 400) : callF T fu (n + 1) 101 [.int q, .int w, .int d, .str mo] (lv st) = .ok (.int (chs mo q w d)) (lv st) := by
  have b1 : bits 2 + bits w < 1000000 := by
    have e1 : bits w < 400 := bits_lt (by omega) (by omega)
    have e2 : bits 2 < 64 := by decide
    omega
  have m2 : ∀ s : Sto, opD .mod (.int q) (.int 2) (lv s) = some (.int (q % 2), lv s) := fun s => p_mod (by decide)
  rw [c_in (P 101 _ rfl)]
  by_cases c0 : w = 0
  · have r : chs mo q w d = q := if_pos (.inl c0)
    have c0' := decide_eq_true c0
    rw [r]
    simp only [evAll0, evAll1, evAll2, evAll3, evAll4, evAll5, evAll6, Bool.not_true, Bool.not_false, decide_true, decide_false, mk_ft, Option.map_some, List.cons_append, List.nil_append, env0, List.map_cons, List.map_nil, List.length_cons, List.length_nil, List.reduceReplicate, Nat.reduceAdd, Nat.reduceSub, Nat.zero_add, List.append_nil, Nat.reduceLeDiff, Int.reduceEq, Int.reduceLT, Int.reduceLE, Int.reduceGT, Int.reduceGE, Int.reduceNe, i_tup, f_chosen, b_f_chosen, c0']
  · have c0' := decide_eq_false c0
    simp only [modes, List.mem_cons, List.not_mem_nil, or_false] at h
    rcases h with rfl | rfl | rfl | rfl
    · have e1 : decide (("down" : Str) = "down") = true := by decide
      have r : chs "down" q w d = q := if_pos (.inr rfl)
      rw [r]
      simp only [evAll0, evAll1, evAll2, evAll3, evAll4, evAll5, evAll6, Bool.not_true, Bool.not_false, decide_true, decide_false, mk_ft, Option.map_some, List.cons_append, List.nil_append, env0, List.map_cons, List.map_nil, List.length_cons, List.length_nil, List.reduceReplicate, Nat.reduceAdd, Nat.reduceSub, Nat.zero_add, List.append_nil, Nat.reduceLeDiff, Int.reduceEq, Int.reduceLT, Int.reduceLE, Int.reduceGT, Int.reduceGE, Int.reduceNe, i_tup, f_chosen, b_f_chosen, c0', e1]
    · have e1 : decide (("up" : Str) = "down") = false := by decide
      have e2 : decide (("up" : Str) = "up") = true := by decide
      have r : chs "up" q w d = q + 1 := (if_neg (fun z => z.elim c0 (by decide))).trans (if_pos rfl)
      rw [r]
      simp only [evAll0, evAll1, evAll2, evAll3, evAll4, evAll5, evAll6, Bool.not_true, Bool.not_false, decide_true, decide_false, mk_ft, Option.map_some, List.cons_append, List.nil_append, env0, List.map_cons, List.map_nil, List.length_cons, List.length_nil, List.reduceReplicate, Nat.reduceAdd, Nat.reduceSub, Nat.zero_add, List.append_nil, Nat.reduceLeDiff, Int.reduceEq, Int.reduceLT, Int.reduceLE, Int.reduceGT, Int.reduceGE, Int.reduceNe, i_tup, f_chosen, b_f_chosen, c0', e1, e2]
    · have e1 : decide (("zero" : Str) = "down") = false := by decide
      have e2 : decide (("zero" : Str) = "up") = false := by decide
      have e4 : decide (("zero" : Str) = "zero") = true := by decide
      have r : chs "zero" q w d = if q < 0 then q + 1 else q := (if_neg (fun z => z.elim c0 (by decide))).trans ((if_neg (by decide)).trans (if_pos rfl))
      rw [r]
      by_cases c1 : q < 0
      · have c1' := decide_eq_true c1
        rw [if_pos c1]
        simp only [evAll0, evAll1, evAll2, evAll3, evAll4, evAll5, evAll6, Bool.not_true, Bool.not_false, decide_true, decide_false, mk_ft, Option.map_some, List.cons_append, List.nil_append, env0, List.map_cons, List.map_nil, List.length_cons, List.length_nil, List.reduceReplicate, Nat.reduceAdd, Nat.reduceSub, Nat.zero_add, List.append_nil, Nat.reduceLeDiff, Int.reduceEq, Int.reduceLT, Int.reduceLE, Int.reduceGT, Int.reduceGE, Int.reduceNe, i_tup, f_chosen, b_f_chosen, c0', e1, e2, e4, c1']
      · have c1' := decide_eq_false c1
        rw [if_neg c1]
        simp only [evAll0, evAll1, evAll2, evAll3, evAll4, evAll5, evAll6, Bool.not_true, Bool.not_false, decide_true, decide_false, mk_ft, Option.map_some, List.cons_append, List.nil_append, env0, List.map_cons, List.map_nil, List.length_cons, List.length_nil, List.reduceReplicate, Nat.reduceAdd, Nat.reduceSub, Nat.zero_add, List.append_nil, Nat.reduceLeDiff, Int.reduceEq, Int.reduceLT, Int.reduceLE, Int.reduceGT, Int.reduceGE, Int.reduceNe, i_tup, f_chosen, b_f_chosen, c0', e1, e2, e4, c1']
    · have e1 : decide (("even" : Str) = "down") = false := by decide
      have e2 : decide (("even" : Str) = "up") = false := by decide
      have e4 : decide (("even" : Str) = "zero") = false := by decide
      have r : chs "even" q w d = if 2 * w > d ∨ (2 * w = d ∧ q % 2 = 1) then q + 1 else q := (if_neg (fun z => z.elim c0 (by decide))).trans ((if_neg (by decide)).trans (if_neg (by decide)))
      rw [r]
      by_cases c1 : 2 * w > d
      · have c1' := decide_eq_true c1
        rw [if_pos (.inl c1)]
        simp only [evAll0, evAll1, evAll2, evAll3, evAll4, evAll5, evAll6, Bool.not_true, Bool.not_false, decide_true, decide_false, mk_ft, Option.map_some, List.cons_append, List.nil_append, env0, List.map_cons, List.map_nil, List.length_cons, List.length_nil, List.reduceReplicate, Nat.reduceAdd, Nat.reduceSub, Nat.zero_add, List.append_nil, Nat.reduceLeDiff, Int.reduceEq, Int.reduceLT, Int.reduceLE, Int.reduceGT, Int.reduceGE, Int.reduceNe, i_tup, f_chosen, b_f_chosen, c0', e1, e2, e4, c1', p_mul b1]
      · have c1' := decide_eq_false c1
        by_cases c2 : 2 * w = d
        · have c2' := decide_eq_true c2
          by_cases c3 : q % 2 = 1
          · have c3' := decide_eq_true c3
            rw [if_pos (.inr ⟨c2, c3⟩)]
            simp only [evAll0, evAll1, evAll2, evAll3, evAll4, evAll5, evAll6, Bool.not_true, Bool.not_false, decide_true, decide_false, mk_ft, Option.map_some, List.cons_append, List.nil_append, env0, List.map_cons, List.map_nil, List.length_cons, List.length_nil, List.reduceReplicate, Nat.reduceAdd, Nat.reduceSub, Nat.zero_add, List.append_nil, Nat.reduceLeDiff, Int.reduceEq, Int.reduceLT, Int.reduceLE, Int.reduceGT, Int.reduceGE, Int.reduceNe, i_tup, f_chosen, b_f_chosen, c0', e1, e2, e4, c1', c2', c3', p_mul b1, m2]
          · have c3' := decide_eq_false c3
            rw [if_neg (fun z => z.elim c1 (fun z => c3 z.2))]
            simp only [evAll0, evAll1, evAll2, evAll3, evAll4, evAll5, evAll6, Bool.not_true, Bool.not_false, decide_true, decide_false, mk_ft, Option.map_some, List.cons_append, List.nil_append, env0, List.map_cons, List.map_nil, List.length_cons, List.length_nil, List.reduceReplicate, Nat.reduceAdd, Nat.reduceSub, Nat.zero_add, List.append_nil, Nat.reduceLeDiff, Int.reduceEq, Int.reduceLT, Int.reduceLE, Int.reduceGT, Int.reduceGE, Int.reduceNe, i_tup, f_chosen, b_f_chosen, c0', e1, e2, e4, c1', c2', c3', p_mul b1, m2]
        · have c2' := decide_eq_false c2
          rw [if_neg (fun z => z.elim c1 (fun z => c2 z.1))]
          simp only [evAll0, evAll1, evAll2, evAll3, evAll4, evAll5, evAll6, Bool.not_true, Bool.not_false, decide_true, decide_false, mk_ft, Option.map_some, List.cons_append, List.nil_append, env0, List.map_cons, List.map_nil, List.length_cons, List.length_nil, List.reduceReplicate, Nat.reduceAdd, Nat.reduceSub, Nat.zero_add, List.append_nil, Nat.reduceLeDiff, Int.reduceEq, Int.reduceLT, Int.reduceLE, Int.reduceGT, Int.reduceGE, Int.reduceNe, i_tup, f_chosen, b_f_chosen, c0', e1, e2, e4, c1', c2', p_mul b1, m2]
theorem nearest_e {mo : Str} {t d : Int} (h : mo ∈ modes) (ht : (t.natAbs : Int) < 2 ^ 380) (hd : 0 < d ∧ d < 2 ^ 380) : callF T fu (n + 2) 100 [.int t, .int d, .str mo] (lv st) = .ok (.int (rnd mo t d)) (lv st) := by
  have q1 := Int.ediv_mul_add_emod t d
  have q2 := Int.emod_nonneg t (show d ≠ 0 by omega)
  have q3 := Int.emod_lt_of_pos t hd.1
  have hw : ((t - t / d * d).natAbs : Int) < 2 ^ 400 := by
    have : (2 : Int) ^ 380 < 2 ^ 400 := by decide +kernel
    omega
  have n1 : (2 : Int) ^ 380 < 2 ^ 400 := by decide +kernel
  have hq : ((t / d).natAbs : Int) < 2 ^ 400 := by
    have := Int.natAbs_ediv_le_natAbs t d
    omega
  have b1 : bits (t / d) + bits d < 1000000 := by
    have e1 : bits (t / d) < 400 := bits_lt (by omega) (by omega)
    have e2 : bits d < 400 := bits_lt (by omega) (by omega)
    omega
  have b2 : bits d < 9000 := by
    have e2 : bits d < 400 := bits_lt (by omega) (by omega)
    omega
  rw [c_in (P 100 _ rfl)]
  simp only [evAll0, evAll1, evAll2, evAll3, evAll4, evAll5, evAll6, Bool.not_true, Bool.not_false, decide_true, decide_false, mk_ft, Option.map_some, List.cons_append, List.nil_append, env0, List.map_cons, List.map_nil, List.length_cons, List.length_nil, List.reduceReplicate, Nat.reduceAdd, Nat.reduceSub, Nat.zero_add, List.append_nil, Nat.reduceLeDiff, Int.reduceEq, Int.reduceLT, Int.reduceLE, Int.reduceGT, Int.reduceGE, Int.reduceNe, i_tup, f_nearest, b_f_nearest, p_fdiv (i := t) (j := d) (st := st) ⟨hd.1, b2⟩, p_mul b1, chosen_e P h hw, rnd]
theorem exact_e {kd mo : Str} {x : D} {k a w d m j : Int} (s : Sc k a) (h : RemV kd x w) (o : Opd k a w d m) (hj : 0 ≤ j ∧ j ≤ 100) (hm : mo ∈ modes) : callF T fu (n + 6) 102 [sch k a, .str kd, .tup [x, .int d, .int m], .int j, .str mo] (lv st) = .ok (.int (rnd mo (w * 2 ^ (k * j).toNat) d)) (lv st) := by
  have hx : nx x = true := by cases h <;> rfl
  have hk := s.k1
  have hk3 := s.k3
  have wb := o.wbig s
  have b1 : bits k + bits j < 1000000 := by
    have e1 : bits k < 64 := bits_small (by omega)
    have e2 : bits j < 64 := bits_small (by omega)
    omega
  have kj0 : 0 ≤ k * j := Int.mul_nonneg (by omega) hj.1
  have kj1 : k * j ≤ 300 := by
    have : k * j ≤ 3 * j := Int.mul_le_mul_of_nonneg_right hk3 hj.1
    omega
  have b2 : bits w < 1000000 := by
    have e1 : bits w < 64 := bits_small (by omega)
    omega
  have p0 : (0 : Int) < 2 ^ (k * j).toNat := Int.pow_pos (by omega)
  have p1 : (2 : Int) ^ (k * j).toNat ≤ 2 ^ 300 := by
    have := Nat.pow_le_pow_right (n := 2) (by omega) (show (k * j).toNat ≤ 300 by omega)
    exact_mod_cast this
  have ht : ((w * 2 ^ (k * j).toNat).natAbs : Int) < 2 ^ 380 := by
    rw [Int.natAbs_mul]
    push_cast
    rw [show ((2 ^ (k * j).toNat : Int).natAbs : Int) = 2 ^ (k * j).toNat by omega]
    have h1 : (w.natAbs : Int) * 2 ^ (k * j).toNat ≤ 2 ^ 64 * 2 ^ (k * j).toNat := Int.mul_le_mul_of_nonneg_right (by omega) (by omega)
    have h2 : (2 : Int) ^ 64 * 2 ^ (k * j).toNat ≤ 2 ^ 64 * 2 ^ 300 := Int.mul_le_mul_of_nonneg_left p1 (by decide +kernel)
    have h3 : (2 : Int) ^ 64 * 2 ^ 300 < 2 ^ 380 := by decide +kernel
    omega
  have n2 : (2 : Int) ^ 61 < 2 ^ 380 := by decide +kernel
  have q3 := o.big
  have hd : 0 < d ∧ d < 2 ^ 380 := ⟨o.pos, by omega⟩
  rw [c_in (P 102 _ rfl)]
  simp only [evAll0, evAll1, evAll2, evAll3, evAll4, evAll5, evAll6, Bool.not_true, Bool.not_false, decide_true, decide_false, mk_ft, Option.map_some, List.cons_append, List.nil_append, env0, List.map_cons, List.map_nil, List.length_cons, List.length_nil, List.reduceReplicate, Nat.reduceAdd, Nat.reduceSub, Nat.zero_add, List.append_nil, Nat.reduceLeDiff, Int.reduceEq, Int.reduceLT, Int.reduceLE, Int.reduceGT, Int.reduceGE, Int.reduceNe, i_tup, f_exact, b_f_exact, hx, need_scheme_e P s, need_kind_e P h, need_start_e P s h o hj.1, need_mode_e P hm, whole_e P h, p_mul b1, p_shl (i := w) (j := k * j) (st := st) ⟨kj0, by omega, b2⟩, nearest_e P hm ht hd]
theorem is_fraction_e {t d : Int} (hd : 0 < d) (hg : Nat.gcd t.natAbs d.natAbs = 1) : callF T fu (n + 2) 97 [.tup [.int t, .int d]] (lv st) = .ok (.bl true) (lv st) := by
  have p1 : ∀ {u v : Int} {s : Sto}, callF T fu (n + 1) 2 [.tup [.int u, .int v]] (lv s) = .ok (.bl true) (lv s) := fun {u v s} => is_pair_e P ⟨_, rfl⟩
  have p2 : ∀ {u : Int} {s : Sto}, callF T fu (n + 1) 0 [.int u] (lv s) = .ok (.bl true) (lv s) := fun {u s} => is_integer_e P ⟨_, rfl⟩
  have g1 : bfD .gcd [.int t, .int d] (lv st) = some (.int 1, lv st) := by
    show some (D.int (Nat.gcd t.natAbs d.natAbs : Nat), lv st) = _
    rw [hg]
    rfl
  rw [c_in (P 97 _ rfl)]
  simp only [evAll0, evAll1, evAll2, evAll3, evAll4, evAll5, evAll6, Bool.not_true, Bool.not_false, decide_true, decide_false, mk_ft, Option.map_some, List.cons_append, List.nil_append, env0, List.map_cons, List.map_nil, List.length_cons, List.length_nil, List.reduceReplicate, Nat.reduceAdd, Nat.reduceSub, Nat.zero_add, List.append_nil, Nat.reduceLeDiff, Int.reduceEq, Int.reduceLT, Int.reduceLE, Int.reduceGT, Int.reduceGE, Int.reduceNe, i_tup, f_is_fraction, b_f_is_fraction, p1, p2, g1, decide_eq_true (show d > 0 from hd)]
theorem rounded_e {mo : Str} {t d : Int} (h : mo ∈ modes) (ht : (t.natAbs : Int) < 2 ^ 380) (hd : 0 < d ∧ d < 2 ^ 380) (hg : Nat.gcd t.natAbs d.natAbs = 1) : callF T fu (n + 3) 99 [.tup [.int t, .int d], .str mo] (lv st) = .ok (.int (rnd mo t d)) (lv st) := by
  rw [c_in (P 99 _ rfl)]
  simp only [evAll0, evAll1, evAll2, evAll3, evAll4, evAll5, evAll6, Bool.not_true, Bool.not_false, decide_true, decide_false, mk_ft, Option.map_some, List.cons_append, List.nil_append, env0, List.map_cons, List.map_nil, List.length_cons, List.length_nil, List.reduceReplicate, Nat.reduceAdd, Nat.reduceSub, Nat.zero_add, List.append_nil, Nat.reduceLeDiff, Int.reduceEq, Int.reduceLT, Int.reduceLE, Int.reduceGT, Int.reduceGE, Int.reduceNe, i_tup, f_rounded, b_f_rounded, is_fraction_e P hd.1 hg, need_mode_e P h, nearest_e P h ht hd]
end
end Q
end

section
set_option Elab.async false
set_option linter.all false
set_option maxRecDepth 100000
set_option maxHeartbeats 4000000
set_option autoImplicit false
set_option exponentiation.threshold 2000
/-! Splitting a body; in a tuple of ints. -/
namespace Q
open PySem L2
def takeS : Nat → SL → SL
  | 0, _ => .nil
  | _ + 1, .nil => .nil
  | n + 1, .cons s r => .cons s (takeS n r)
theorem split_at {C : Ctx} {N K Ct : Ev → Sto → Prop} {R : D → Sto → Prop} : ∀ (n : Nat) (b : SL) (env : Ev) (st : Sto), Ens4 (evSs C (takeS n b) env (lv st)) (fun e s => Ens4 (evSs C (dropS n b) e (lv s)) N R K Ct) R K Ct → Ens4 (evSs C b env (lv st)) N R K Ct
  | 0, b, env, st, h => by
    rw [takeS, s_nil, n_nx] at h
    exact h
  | n + 1, .nil, env, st, h => by
    rw [takeS, s_nil, n_nx] at h
    exact h
  | n + 1, .cons s r, env, st, h => by
    rw [takeS, s_cons, n_sb] at h
    rw [s_cons, n_sb]
    exact h.imp (fun e s h => split_at n r e s h) (fun _ _ h => h) (fun _ _ h => h) (fun _ _ h => h)
theorem in_int {x : Int} {ys : List Int} {st : Sto} (h : (SeqAt.shaped (.int x) && PyData.canLayAll0 (ys.map PyData.int) && decide ((PyData.int x).depth ≤ 60)) = true) : inD (.int x) (.tup (ys.map D.int)) st = some (.bl ((ys.map PyData.int).any fun z => PyData.eqv z (.int x)), st) := by
  have e : ∀ l : List Int, mapO (toP st 29) (l.map D.int) = some (l.map PyData.int) := fun l => by
    induction l with
    | nil => rfl
    | cons y l ih => simp only [List.map_cons, mapO, toP, ih]
  simp only [Bool.and_eq_true, decide_eq_true_eq] at h
  unfold inD
  simp only [toP, seqP, e]
  rw [if_pos ⟨h.1.1, h.1.2, h.2⟩]
theorem mul_bd {u A P Q : Int} (hu : -A ≤ u ∧ u ≤ A) (hA : 0 ≤ A) (hP : 0 ≤ P ∧ P ≤ Q) : -(A * Q) ≤ u * P ∧ u * P ≤ A * Q := by
  have h1 := Int.mul_le_mul_of_nonneg_right hu.2 hP.1
  have h2 := Int.mul_le_mul_of_nonneg_left hP.2 hA
  have h3 := Int.mul_le_mul_of_nonneg_right hu.1 hP.1
  rw [Int.neg_mul] at h3
  omega
theorem rnd_scale {mo : Str} {t d g : Int} (hg : 0 < g) (hd : 0 < d) : rnd mo (t * g) (d * g) = rnd mo t d := by
  have e1 : t * g / (d * g) = t / d := Int.mul_ediv_mul_of_pos_left t d hg
  unfold rnd
  rw [e1]
  have e2 : t * g - t / d * (d * g) = (t - t / d * d) * g := by rw [Int.sub_mul, Int.mul_assoc]
  rw [e2]
  obtain ⟨w, hw⟩ : ∃ w, w = t - t / d * d := ⟨_, rfl⟩
  rw [← hw]
  unfold chs
  have c1 : (w * g = 0) ↔ (w = 0) := by
    constructor
    · intro h
      rcases Int.mul_eq_zero.mp h with h | h
      · exact h
      · omega
    · intro h; rw [h, Int.zero_mul]
  have c2 : (2 * (w * g) > d * g) ↔ (2 * w > d) := by
    rw [← Int.mul_assoc]
    exact Int.mul_lt_mul_right hg
  have c3 : (2 * (w * g) = d * g) ↔ (2 * w = d) := by
    rw [← Int.mul_assoc]
    exact Int.mul_eq_mul_right_iff (by omega)
  simp only [c1, c2, c3]
theorem rnd_neg {t d : Int} (hd : 0 < d) : rnd "down" (-t) d = -rnd "up" t d := by
  have q1 := Int.ediv_mul_add_emod t d
  have q2 := Int.emod_nonneg t (show d ≠ 0 by omega)
  have q3 := Int.emod_lt_of_pos t hd
  have r1 : rnd "down" (-t) d = -t / d := if_pos (.inr rfl)
  rw [r1]
  unfold rnd chs
  obtain ⟨q, hq⟩ : ∃ q, q = t / d := ⟨_, rfl⟩
  rw [← hq] at q1 ⊢
  by_cases c : t - q * d = 0
  · rw [if_pos (.inl c)]
    have e : -t = (-q) * d := by rw [Int.neg_mul]; omega
    rw [e, Int.mul_ediv_cancel _ (by omega)]
  · rw [if_neg (fun z => z.elim c (by decide)), if_pos rfl]
    have e : -t = (d - (t - q * d)) + (-(q + 1)) * d := by rw [Int.neg_mul, Int.add_mul]; omega
    rw [e, Int.add_mul_ediv_right _ _ (by omega), Int.ediv_eq_zero_of_lt (by omega) (by omega)]
    omega
end Q
end

section
set_option linter.all false
set_option autoImplicit false
set_option maxRecDepth 100000
namespace Q.K38
open PySem Q
def b_f_law : SL := (.cons (.set 1 (.call 200 (.cons (.var 0) .nil))) (.cons (.for (.nm 2) (.r1 (.int 6)) (.cons (.par2 3 4 (.call 206 (.cons (.var 1) .nil)) (.call 203 (.cons (.var 1) (.cons (.lst (.cons (.int 0) (.cons (.int 1) (.cons (.int 2) (.cons (.int 4) (.cons (.int 40) (.cons (.call 201 (.cons (.var 1) (.cons (.int 41) .nil))) .nil))))))) .nil)))) (.cons (.asg (.tp (.cons (.nm 5) (.cons (.nm 6) (.cons (.nm 7) .nil)))) (.call 243 (.cons (.var 1) (.cons (.var 3) (.cons (.tup (.cons (.int 0) (.cons (.int 0) (.cons (.str "one") .nil)))) .nil))))) (.cons (.par2 8 6 (.op .shl (.int 1) (.ix (.var 3) (.int 0))) (.ite (.cmp .eq (.var 2) (.int 4)) (.op .shl (.int 1) (.var 7)) (.var 6))) (.cons (.set 9 (.op .fdiv (.op .mul (.ix (.var 3) (.int 1)) (.var 6)) (.op .sub (.var 8) (.int 1)))) (.cons (.set 5 (.ite (.cmp .eq (.var 2) (.int 5)) (.call 203 (.cons (.var 1) (.cons (.lst (.cons (.op .fdiv (.var 6) (.int 2)) (.cons (.neg (.op .fdiv (.var 6) (.int 2))) (.cons (.op .fdiv (.var 6) (.var 8)) (.cons (.int 0) .nil))))) .nil))) (.var 5))) (.cons (.set 5 (.blt .min2 (.cons (.blt .max2 (.cons (.var 5) (.cons (.neg (.var 9)) .nil))) (.cons (.var 9) .nil)))) (.cons (.for (.nm 10) (.val (.tup (.cons (.str "down") (.cons (.str "up") (.cons (.str "zero") (.cons (.str "even") .nil)))))) (.cons (.ite (.not (.call 299 (.cons (.var 3) (.cons (.tup (.cons (.var 5) (.cons (.var 6) (.cons (.var 7) .nil)))) (.cons (.var 4) (.cons (.var 10) .nil)))))) (.cons (.ret (.bl false)) .nil) .nil) .nil)) (.cons (.ite (.cmp .ne (.call 102 (.cons (.var 3) (.cons (.str "one") (.cons (.tup (.cons (.neg (.var 5)) (.cons (.var 6) (.cons (.var 7) .nil)))) (.cons (.var 4) (.cons (.str "down") .nil)))))) (.neg (.call 102 (.cons (.var 3) (.cons (.str "one") (.cons (.tup (.cons (.var 5) (.cons (.var 6) (.cons (.var 7) .nil)))) (.cons (.var 4) (.cons (.str "up") .nil)))))))) (.cons (.ret (.bl false)) .nil) .nil) (.cons (.ite (.and (.cmp .le (.blt .abs (.cons (.op .mul (.var 8) (.var 5)) .nil)) (.var 9)) (.cmp .lt (.var 4) (.int 40))) (.cons (.ite (.cmp .ne (.call 102 (.cons (.var 3) (.cons (.str "one") (.cons (.tup (.cons (.op .mul (.var 8) (.var 5)) (.cons (.var 6) (.cons (.var 7) .nil)))) (.cons (.var 4) (.cons (.str "even") .nil)))))) (.call 102 (.cons (.var 3) (.cons (.str "one") (.cons (.tup (.cons (.var 5) (.cons (.var 6) (.cons (.var 7) .nil)))) (.cons (.op .add (.var 4) (.int 1)) (.cons (.str "even") .nil))))))) (.cons (.ret (.bl false)) .nil) .nil) .nil) .nil) .nil)))))))))) (.cons (.ret (.bl true)) .nil)))
def f_law : Fd := ⟨["script", "deck", "turn", "scheme", "m", "x", "d", "n", "r", "far", "mode"], ["script"], b_f_law, none⟩
def sg : SG := ⟨[(0, "is_integer", 1), (1, "is_natural", 1), (2, "is_pair", 1), (3, "is_triple", 1), (97, "is_fraction", 1), (4, "is_scheme", 1), (5, "need_scheme", 1), (6, "radix", 1), (25, "is_kind", 1), (26, "need_kind", 1), (29, "is_operands", 3), (30, "is_within", 3), (31, "whole", 2), (38, "_is_remainder", 2), (39, "_is_divisor", 2), (69, "need_start", 4), (98, "need_mode", 1), (102, "exact", 5), (99, "rounded", 2), (100, "nearest", 3), (101, "_chosen", 4), (200, "_law_deck", 1), (201, "_law_draw", 2), (203, "_law_pick", 2), (262, "_law_reached", 3), (206, "_law_scheme", 1), (304, "_law_far", 2), (243, "_law_operands", 3), (336, "_law_rounded", 3), (332, "_law_common", 2), (299, "_law_is_told", 4), (199, "law", 1)], [(102, 0, ["mode", "m", "operands", "kind", "scheme"], [4, 3, 2, 1, 0])], [(0, "BadScheme", "thing"), (4, "BadOperands", "thing"), (5, "BadNumber", "thing"), (6, "BadMode", "thing")], [], ["abs", "bool", "gcd", "int", "isinstance", "len", "list", "max", "min", "range", "repr", "tuple"], [("MODES", (.tup [(.str "down"), (.str "up"), (.str "zero"), (.str "even")]))]⟩
def fd : List (Nat × Fd) := progL ++ [(200, lf_deck_40), (201, lf_draw_40), (203, lf_pick_0), (262, lf_reached_1), (206, lf_scheme_2), (304, lf_far_0), (243, lf_operands_2), (336, lf_rounded_0), (332, lf_common_1), (299, lf_is_told_3), (199, f_law)]
def hd : List Fd := []
def nc (c : Nat) : Nat := if c = 0 then 0 else if c = 4 then 1 else if c = 5 then 2 else if c = 6 then 3 else 0
def sub (a b : Nat) : Bool := nc a == nc b
def fn (c : Nat) : Str := ["thing", "thing", "thing", "thing"].getD (nc c) "thing"
def T : PT := ⟨sg, fd, hd, sub, fn⟩
end Q.K38
end

section
set_option Elab.async false
set_option linter.all false
set_option maxRecDepth 100000
set_option maxHeartbeats 4000000
set_option autoImplicit false
set_option exponentiation.threshold 2000
namespace Q.K38
open PySem L2 Q
theorem P : Pg T := Pg.of rfl
theorem dr : ∀ (fu k : Nat), DrawQ T fu (k + 1) 201 "cells" := fun fu k => drawQ (F := lf_draw_40) rfl rfl rfl (by decide +kernel) (by decide +kernel) ⟨by decide, by decide⟩ ⟨by decide, by decide⟩ ⟨by decide, by decide⟩ ⟨by decide, by decide⟩ ⟨by decide, by decide⟩ ⟨by decide, by decide⟩ ⟨by decide, by decide⟩ ⟨by decide, by decide⟩ ⟨by decide, by decide⟩ ⟨by decide, by decide⟩
theorem dk {fu k : Nat} {st : Sto} {ns : List Int} (hl : ns.length ≤ 1000) : EnsR (callF T fu (k + 1) 200 [.fz (ns.map D.int)] st) fun d s => ∃ n m, d = .loc n ∧ Dq "cells" s n m (2 ^ 38) := deckQ (F := lf_deck_40) rfl rfl rfl (by decide +kernel) (by decide +kernel) ⟨by decide, by decide⟩ ⟨by decide, by decide⟩ ⟨by decide, by decide⟩ ⟨by decide, by decide⟩ ⟨by decide, by decide⟩ hl
theorem pk : ∀ (fu k : Nat), PickQ T fu (k + 2) 203 "cells" := fun fu k => pickQ (F := lf_pick_0) rfl rfl rfl (dr fu k)
section
variable {fu k : Nat}
theorem draw {st : Sto} {n0 m0 : Nat} {B many : Int} (D0 : Dq "cells" st n0 m0 (B + 1)) (hB : 0 ≤ B) (hm : 0 < many ∧ many < 1073741824) : EnsR (callF T fu (k + 1) 201 [.loc n0, .int many] (lv st)) fun d s => (∃ r : Int, d = .int r ∧ 0 ≤ r ∧ r < many) ∧ Dq "cells" s n0 m0 B ∧ Fr n0 m0 st s :=
  (dr fu k st n0 m0 B many D0 hB hm.1 hm.2).mono fun d s h => by
    obtain ⟨r, h1, h2, h3, h4, h5⟩ := h
    exact ⟨⟨r, h1, h2, h3⟩, h4, h5⟩
theorem pkn {st : Sto} {n0 m0 : Nat} {B : Int} {ds : List D} (D0 : Dq "cells" st n0 m0 (B + 1)) (hB : 0 ≤ B) (h0 : ds ≠ []) (hz : ds.length < 1000000) : EnsR (callF T fu (k + 2) 203 [.loc n0, .loc st.length] (lv (st ++ [Ob.lst ds]))) fun d s => d ∈ ds ∧ Dq "cells" s n0 m0 B ∧ Fr n0 m0 st s := (pk fu k).new D0 hB h0 hz
theorem far_e {st : Sto} {n0 m0 : Nat} {B many : Int} (D0 : Dq "cells" st n0 m0 (B + 3)) (hB : 0 ≤ B) (hm : 0 < many) : EnsR (callF T fu (k + 2) 304 [.loc n0, .int many] (lv st)) fun d s => (∃ r : Int, d = .int r ∧ 0 ≤ r ∧ r < many) ∧ Dq "cells" s n0 m0 B ∧ Fr n0 m0 st s := by
  rw [c_in (F := lf_far_0) rfl]
  simp only [evAll0, evAll1, evAll2, evAll3, evAll4, evAll5, evAll6, Bool.not_true, Bool.not_false, decide_true, decide_false, mk_ft, Option.map_some, List.cons_append, List.nil_append, env0, List.map_cons, List.map_nil, List.length_cons, List.length_nil, List.reduceReplicate, Nat.reduceAdd, Nat.reduceSub, Nat.zero_add, List.append_nil, Nat.reduceLeDiff, Int.reduceEq, Int.reduceLT, Int.reduceLE, Int.reduceGT, Int.reduceGE, Int.reduceNe, i_tup, lf_far_0, lb_far_0]
  refine (draw (B := B + 2) (by rw [show B + 2 + 1 = B + 3 by omega]; exact D0) (by omega) (by decide)).imp fun d s1 h => ?_
  obtain ⟨⟨r1, rfl, a0, a1⟩, D1, F1⟩ := h
  have b1 : bits r1 < 1000000 := Nat.lt_trans (bits_small (by omega)) (by decide)
  simp only [evAll0, evAll1, evAll2, evAll3, evAll4, evAll5, evAll6, Bool.not_true, Bool.not_false, decide_true, decide_false, mk_ft, Option.map_some, List.cons_append, List.nil_append, env0, List.map_cons, List.map_nil, List.length_cons, List.length_nil, List.reduceReplicate, Nat.reduceAdd, Nat.reduceSub, Nat.zero_add, List.append_nil, Nat.reduceLeDiff, Int.reduceEq, Int.reduceLT, Int.reduceLE, Int.reduceGT, Int.reduceGE, Int.reduceNe, i_tup, p_shl (i := r1) (j := 36) (st := s1) ⟨by decide, by decide, b1⟩]
  refine (draw (B := B + 1) (by rw [show B + 1 + 1 = B + 2 by omega]; exact D1) (by omega) (by decide)).imp fun d s2 h => ?_
  obtain ⟨⟨r2, rfl, a2, a3⟩, D2, F2⟩ := h
  have b2 : bits r2 < 1000000 := Nat.lt_trans (bits_small (by omega)) (by decide)
  simp only [evAll0, evAll1, evAll2, evAll3, evAll4, evAll5, evAll6, Bool.not_true, Bool.not_false, decide_true, decide_false, mk_ft, Option.map_some, List.cons_append, List.nil_append, env0, List.map_cons, List.map_nil, List.length_cons, List.length_nil, List.reduceReplicate, Nat.reduceAdd, Nat.reduceSub, Nat.zero_add, List.append_nil, Nat.reduceLeDiff, Int.reduceEq, Int.reduceLT, Int.reduceLE, Int.reduceGT, Int.reduceGE, Int.reduceNe, i_tup, p_shl (i := r2) (j := 18) (st := s2) ⟨by decide, by decide, b2⟩]
  refine (draw (B := B) D2 (by omega) (by decide)).imp fun d s3 h => ?_
  obtain ⟨⟨r3, rfl, a4, a5⟩, D3, F3⟩ := h
  simp only [evAll0, evAll1, evAll2, evAll3, evAll4, evAll5, evAll6, Bool.not_true, Bool.not_false, decide_true, decide_false, mk_ft, Option.map_some, List.cons_append, List.nil_append, env0, List.map_cons, List.map_nil, List.length_cons, List.length_nil, List.reduceReplicate, Nat.reduceAdd, Nat.reduceSub, Nat.zero_add, List.append_nil, Nat.reduceLeDiff, Int.reduceEq, Int.reduceLT, Int.reduceLE, Int.reduceGT, Int.reduceGE, Int.reduceNe, i_tup, p_mod hm]
  exact ⟨⟨_, rfl, Int.emod_nonneg _ (by omega), Int.emod_lt_of_pos _ hm⟩, D3, (F1.trans F2).trans F3⟩
theorem scheme_e {st : Sto} {n0 m0 : Nat} {B : Int} (D0 : Dq "cells" st n0 m0 (B + 2)) (hB : 0 ≤ B) : EnsR (callF T fu (k + 3) 206 [.loc n0] (lv st)) fun d s => (∃ kk a, d = sch kk a ∧ Sc kk a) ∧ Dq "cells" s n0 m0 B ∧ Fr n0 m0 st s := by
  rw [c_in (F := lf_scheme_2) rfl]
  simp only [evAll0, evAll1, evAll2, evAll3, evAll4, evAll5, evAll6, Bool.not_true, Bool.not_false, decide_true, decide_false, mk_ft, Option.map_some, List.cons_append, List.nil_append, env0, List.map_cons, List.map_nil, List.length_cons, List.length_nil, List.reduceReplicate, Nat.reduceAdd, Nat.reduceSub, Nat.zero_add, List.append_nil, Nat.reduceLeDiff, Int.reduceEq, Int.reduceLT, Int.reduceLE, Int.reduceGT, Int.reduceGE, Int.reduceNe, i_tup, lf_scheme_2, lb_scheme_2]
  refine (pkn (B := B + 1) (by rw [show B + 1 + 1 = B + 2 by omega]; exact D0) (by omega) (by simp) (by simp)).imp fun d s1 h => ?_
  obtain ⟨h1, D1, F1⟩ := h
  obtain ⟨kk, rfl, hk⟩ : ∃ kk : Int, d = .int kk ∧ (kk = 1 ∨ kk = 2 ∨ kk = 3) := by
    simp only [List.mem_cons, List.not_mem_nil, or_false] at h1
    rcases h1 with rfl | rfl | rfl | rfl | rfl | rfl | rfl | rfl <;> exact ⟨_, rfl, by decide⟩
  have e0 : ∀ s, opD .shl (.int 1) (.int (kk - 1)) (lv s) = some (.int (1 * 2 ^ (kk - 1).toNat), lv s) := fun s => p_shl ⟨by omega, by omega, by decide⟩
  obtain ⟨h, hh⟩ : ∃ h : Int, h = 1 * 2 ^ (kk - 1).toNat := ⟨_, rfl⟩
  rw [← hh] at e0
  have hv : (kk = 1 ∧ h = 1) ∨ (kk = 2 ∧ h = 2) ∨ (kk = 3 ∧ h = 4) := by
    rcases hk with rfl | rfl | rfl
    · exact .inl ⟨rfl, by rw [hh]; rfl⟩
    · exact .inr (.inl ⟨rfl, by rw [hh]; rfl⟩)
    · exact .inr (.inr ⟨rfl, by rw [hh]; rfl⟩)
  simp only [evAll0, evAll1, evAll2, evAll3, evAll4, evAll5, evAll6, Bool.not_true, Bool.not_false, decide_true, decide_false, mk_ft, Option.map_some, List.cons_append, List.nil_append, env0, List.map_cons, List.map_nil, List.length_cons, List.length_nil, List.reduceReplicate, Nat.reduceAdd, Nat.reduceSub, Nat.zero_add, List.append_nil, Nat.reduceLeDiff, Int.reduceEq, Int.reduceLT, Int.reduceLE, Int.reduceGT, Int.reduceGE, Int.reduceNe, i_tup, e0]
  refine (draw (B := B) D1 (by omega) ⟨by omega, by omega⟩).imp fun d s2 h => ?_
  obtain ⟨⟨r2, rfl, a2, a3⟩, D2, F2⟩ := h
  simp only [evAll0, evAll1, evAll2, evAll3, evAll4, evAll5, evAll6, Bool.not_true, Bool.not_false, decide_true, decide_false, mk_ft, Option.map_some, List.cons_append, List.nil_append, env0, List.map_cons, List.map_nil, List.length_cons, List.length_nil, List.reduceReplicate, Nat.reduceAdd, Nat.reduceSub, Nat.zero_add, List.append_nil, Nat.reduceLeDiff, Int.reduceEq, Int.reduceLT, Int.reduceLE, Int.reduceGT, Int.reduceGE, Int.reduceNe, i_tup]
  refine ⟨⟨_, _, rfl, ?_⟩, D2, F1.trans F2⟩
  rcases hv with ⟨rfl, rfl⟩ | ⟨rfl, rfl⟩ | ⟨rfl, rfl⟩
  · exact ⟨by decide, by decide, by show (2 : Int) / 2 ≤ _; omega, by show _ ≤ (2 : Int) - 1; omega⟩
  · exact ⟨by decide, by decide, by show (4 : Int) / 2 ≤ _; omega, by show _ ≤ (4 : Int) - 1; omega⟩
  · exact ⟨by decide, by decide, by show (8 : Int) / 2 ≤ _; omega, by show _ ≤ (8 : Int) - 1; omega⟩
abbrev look0 : D := .tup [.int 0, .int 0, .str "one"]
theorem reached_e {st : Sto} {kk a : Int} (s : Sc kk a) : ∃ t : Int, 0 ≤ t ∧ t ≤ 1000 ∧ callF T fu (k + 1) 262 [sch kk a, look0, .int 0] (lv st) = .ok (.tup [.int (-t - 1), .int t]) (lv st) := by
  have h1 := r_cases s.k1 s.k3
  have h2 := s.hi
  have h3 := s.lo
  have hk := s.k1
  have hk3 := s.k3
  have e1 : decide (("one" : Str) = "one") = true := by decide
  have e0 : ∀ s, opD .shl (.int 1) (.int kk) (lv s) = some (.int (1 * 2 ^ kk.toNat), lv s) := fun s => p_shl ⟨by omega, by omega, by decide⟩
  rw [Int.one_mul] at e0
  have b0 : bits (2 ^ kk.toNat) + bits a < 1000000 := by
    have e1 : bits ((2 : Int) ^ kk.toNat) < 64 := bits_small (by omega)
    have e2 : bits a < 64 := bits_small (by omega)
    omega
  obtain ⟨r, hr⟩ : ∃ r : Int, r = 2 ^ kk.toNat := ⟨_, rfl⟩
  rw [← hr] at h1 h2 h3 e0 b0
  have ra0 : 0 ≤ r * a ∧ r * a ≤ 64 := by
    have q1 := Int.mul_nonneg (show 0 ≤ r by omega) (show 0 ≤ a by omega)
    have q2 : r * a ≤ 8 * a := Int.mul_le_mul_of_nonneg_right (by omega) (by omega)
    omega
  obtain ⟨ra, hra⟩ : ∃ ra : Int, ra = r * a := ⟨_, rfl⟩
  rw [← hra] at ra0
  have e2 : ∀ s, opD .mul (.int r) (.int a) (lv s) = some (.int ra, lv s) := fun s => by rw [hra]; exact p_mul b0
  have e3 : ∀ s, opD .shl (.int ra) (.int 0) (lv s) = some (.int ra, lv s) := fun s => (p_shl ⟨by decide, by decide, Nat.lt_trans (bits_small (by omega)) (by decide)⟩).trans (by rw [show (2 : Int) ^ (0 : Int).toNat = 1 from rfl, Int.mul_one])
  have e4 : ∀ s, opD .shl (.int 1) (.int 0) (lv s) = some (.int 1, lv s) := fun s => (p_shl ⟨by decide, by decide, by decide⟩).trans rfl
  have e5 : ∀ s, opD .mul (.int ra) (.int (1 + 0 + 1)) (lv s) = some (.int (ra * (1 + 0 + 1)), lv s) := fun s => p_mul (by
    have e1 : bits ra < 64 := bits_small (by omega)
    have e2 : bits (1 + 0 + 1) < 64 := by decide
    omega)
  have e6 : ∀ s, opD .shl (.int (r - 1)) (.int 0) (lv s) = some (.int (r - 1), lv s) := fun s => (p_shl ⟨by decide, by decide, Nat.lt_trans (bits_small (by omega)) (by decide)⟩).trans (by rw [show (2 : Int) ^ (0 : Int).toNat = 1 from rfl, Int.mul_one])
  have e7 : ∀ s, opD .fdiv (.int (ra * (1 + 0 + 1) - 1)) (.int (r - 1)) (lv s) = some (.int ((ra * (1 + 0 + 1) - 1) / (r - 1)), lv s) := fun s => p_fdiv ⟨by omega, Nat.lt_trans (bits_small (by omega)) (by decide)⟩
  have ha1 : 1 ≤ ra := by
    have : 2 * 1 ≤ r * a := Int.mul_le_mul (by omega) (by omega) (by omega) (by omega)
    omega
  refine ⟨(ra * (1 + 0 + 1) - 1) / (r - 1), Int.ediv_nonneg (by omega) (by omega), ?_, ?_⟩
  · have : (ra * (1 + 0 + 1) - 1) / (r - 1) ≤ ra * (1 + 0 + 1) - 1 := Int.ediv_le_self _ (by omega)
    omega
  · rw [c_in (F := lf_reached_1) rfl]
    simp only [evAll0, evAll1, evAll2, evAll3, evAll4, evAll5, evAll6, Bool.not_true, Bool.not_false, decide_true, decide_false, mk_ft, Option.map_some, List.cons_append, List.nil_append, env0, List.map_cons, List.map_nil, List.length_cons, List.length_nil, List.reduceReplicate, Nat.reduceAdd, Nat.reduceSub, Nat.zero_add, List.append_nil, Nat.reduceLeDiff, Int.reduceEq, Int.reduceLT, Int.reduceLE, Int.reduceGT, Int.reduceGE, Int.reduceNe, i_tup, lf_reached_1, lb_reached_1, e0, e1, e2, e3, e4, e5, e6, e7]
/-- what the operands' making knows -/
structure Ow (kk a d n : Int) : Prop where
  n1 : 1 ≤ n
  n2 : n ≤ 40
  lo : 2 ^ n.toNat ≤ d
  hi : d < 2 * 2 ^ n.toNat
theorem pw40 {n : Int} (h : n ≤ 40) : (2 : Int) ^ n.toNat ≤ 2 ^ 40 := by
  have := Nat.pow_le_pow_right (n := 2) (by omega) (show n.toNat ≤ 40 by omega)
  exact_mod_cast this
theorem Ow.dv {kk a d n : Int} (h : Ow kk a d n) : Dv d n := ⟨h.n1, by have := h.n2; omega, h.lo, by rw [Int.pow_succ]; have := h.hi; omega⟩
theorem op_tail {s : Sto} {n0 m0 : Nat} {B kk a d n x : Int} {x7 x8 x10 x11 x12 : Option D} (sc : Sc kk a) (o : Ow kk a d n) (D0 : Dq "cells" s n0 m0 B) :
    Ens4 (evSs (mkC T fu (callF T fu k)) (dropS 7 lb_operands_2) [some (.loc n0), some (sch kk a), some look0, x7, x8, some (.int n), some (.int d), some (.int (a * d / (2 ^ kk.toNat - 1))), x10, some (.int x), x11, x12, none] (lv s)) noE (fun d' s' => (∃ x, d' = .tup [.int x, .int d, .int n] ∧ Opd kk a x d n) ∧ s' = s) noE noE := by
  have e1 : decide (("one" : Str) = "one") = true := by decide
  have h1 := r_cases sc.k1 sc.k3
  have h2 := sc.hi
  have h3 := sc.lo
  have hd := o.dv.pos
  simp only [evAll0, evAll1, evAll2, evAll3, evAll4, evAll5, evAll6, Bool.not_true, Bool.not_false, decide_true, decide_false, mk_ft, Option.map_some, List.cons_append, List.nil_append, env0, List.map_cons, List.map_nil, List.length_cons, List.length_nil, List.reduceReplicate, Nat.reduceAdd, Nat.reduceSub, Nat.zero_add, List.append_nil, Nat.reduceLeDiff, Int.reduceEq, Int.reduceLT, Int.reduceLE, Int.reduceGT, Int.reduceGE, Int.reduceNe, i_tup, dropS, lb_operands_2, e1]
  refine ⟨⟨_, rfl, o.dv, ?_⟩, rfl⟩
  obtain ⟨r, hr⟩ : ∃ r : Int, r = 2 ^ kk.toNat := ⟨_, rfl⟩
  rw [← hr] at h1 h2 h3 ⊢
  have q1 : a * d / (r - 1) * (r - 1) ≤ a * d := Int.ediv_mul_le _ (by omega)
  have q0 : 0 ≤ a * d / (r - 1) := Int.ediv_nonneg (Int.mul_nonneg (by omega) (by omega)) (by omega)
  have q2 : ((min (max x (-(a * d / (r - 1)))) (a * d / (r - 1))).natAbs : Int) ≤ a * d / (r - 1) := by omega
  have q3 := Int.mul_le_mul_of_nonneg_right q2 (show 0 ≤ r - 1 by omega)
  omega
theorem op_head {st : Sto} {n0 m0 : Nat} {B kk a : Int} (sc : Sc kk a) (D0 : Dq "cells" st n0 m0 (B + 30)) (hB : 0 ≤ B) :
    Ens4 (evSs (mkC T fu (callF T fu (k + 2))) (takeS 4 lb_operands_2) [some (.loc n0), some (sch kk a), some look0, none, none, none, none, none, none, none, none, none, none] (lv st)) (fun e s => (∃ d n w x, Ow kk a d n ∧ 0 ≤ w ∧ w < 6 ∧ e = [some (.loc n0), some (sch kk a), some look0, some (.int (2 ^ kk.toNat)), some (.int a), some (.int n), some (.int d), some (.int (a * d / (2 ^ kk.toNat - 1))), some (.int w), some (.int x), none, none, none]) ∧ Dq "cells" s n0 m0 (B + 10) ∧ Fr n0 m0 st s) noD noE noE := by
  have h1 := r_cases sc.k1 sc.k3
  have h2 := sc.hi
  have h3 := sc.lo
  have hk := sc.k1
  have hk3 := sc.k3
  have e0 : ∀ s, opD .shl (.int 1) (.int kk) (lv s) = some (.int (1 * 2 ^ kk.toNat), lv s) := fun s => p_shl ⟨by omega, by omega, by decide⟩
  rw [Int.one_mul] at e0
  simp only [evAll0, evAll1, evAll2, evAll3, evAll4, evAll5, evAll6, Bool.not_true, Bool.not_false, decide_true, decide_false, mk_ft, Option.map_some, List.cons_append, List.nil_append, env0, List.map_cons, List.map_nil, List.length_cons, List.length_nil, List.reduceReplicate, Nat.reduceAdd, Nat.reduceSub, Nat.zero_add, List.append_nil, Nat.reduceLeDiff, Int.reduceEq, Int.reduceLT, Int.reduceLE, Int.reduceGT, Int.reduceGE, Int.reduceNe, i_tup, takeS, lb_operands_2, e0]
  refine (draw (B := B + 29) (by rw [show B + 29 + 1 = B + 30 by omega]; exact D0) (by omega) (by decide)).imp fun d s1 h => ?_
  obtain ⟨⟨r1, rfl, a0, a1⟩, D1, F1⟩ := h
  simp only [evAll0, evAll1, evAll2, evAll3, evAll4, evAll5, evAll6, Bool.not_true, Bool.not_false, decide_true, decide_false, mk_ft, Option.map_some, List.cons_append, List.nil_append, env0, List.map_cons, List.map_nil, List.length_cons, List.length_nil, List.reduceReplicate, Nat.reduceAdd, Nat.reduceSub, Nat.zero_add, List.append_nil, Nat.reduceLeDiff, Int.reduceEq, Int.reduceLT, Int.reduceLE, Int.reduceGT, Int.reduceGE, Int.reduceNe, i_tup]
  refine (pkn (B := B + 28) (by rw [show B + 28 + 1 = B + 29 by omega]; exact D1) (by omega) (by simp) (by simp)).imp fun d s2 h => ?_
  obtain ⟨hd, D2, F2⟩ := h
  obtain ⟨n, rfl, n1, n2⟩ : ∃ n : Int, d = .int n ∧ 1 ≤ n ∧ n ≤ 40 := by
    simp only [List.mem_cons, List.not_mem_nil, or_false] at hd
    rcases hd with rfl | rfl | rfl | rfl | rfl | rfl | rfl | rfl | rfl <;> exact ⟨_, rfl, by omega, by omega⟩
  have eN : ∀ s, opD .shl (.int 1) (.int n) (lv s) = some (.int (1 * 2 ^ n.toNat), lv s) := fun s => p_shl ⟨by omega, by omega, by decide⟩
  rw [Int.one_mul] at eN
  have N0 : (0 : Int) < 2 ^ n.toNat := Int.pow_pos (by omega)
  have N1 := pw40 n2
  simp only [evAll0, evAll1, evAll2, evAll3, evAll4, evAll5, evAll6, Bool.not_true, Bool.not_false, decide_true, decide_false, mk_ft, Option.map_some, List.cons_append, List.nil_append, env0, List.map_cons, List.map_nil, List.length_cons, List.length_nil, List.reduceReplicate, Nat.reduceAdd, Nat.reduceSub, Nat.zero_add, List.append_nil, Nat.reduceLeDiff, Int.reduceEq, Int.reduceLT, Int.reduceLE, Int.reduceGT, Int.reduceGE, Int.reduceNe, i_tup, eN]
  refine (far_e (B := B + 25) (by rw [show B + 25 + 3 = B + 28 by omega]; exact D2) (by omega) N0).imp fun d s3 h => ?_
  obtain ⟨⟨r2, rfl, a2, a3⟩, D3, F3⟩ := h
  simp only [evAll0, evAll1, evAll2, evAll3, evAll4, evAll5, evAll6, Bool.not_true, Bool.not_false, decide_true, decide_false, mk_ft, Option.map_some, List.cons_append, List.nil_append, env0, List.map_cons, List.map_nil, List.length_cons, List.length_nil, List.reduceReplicate, Nat.reduceAdd, Nat.reduceSub, Nat.zero_add, List.append_nil, Nat.reduceLeDiff, Int.reduceEq, Int.reduceLT, Int.reduceLE, Int.reduceGT, Int.reduceGE, Int.reduceNe, i_tup, eN]
  refine (far_e (B := B + 22) (by rw [show B + 22 + 3 = B + 25 by omega]; exact D3) (by omega) N0).imp fun d s4 h => ?_
  obtain ⟨⟨r3, rfl, a4, a5⟩, D4, F4⟩ := h
  simp only [evAll0, evAll1, evAll2, evAll3, evAll4, evAll5, evAll6, Bool.not_true, Bool.not_false, decide_true, decide_false, mk_ft, Option.map_some, List.cons_append, List.nil_append, env0, List.map_cons, List.map_nil, List.length_cons, List.length_nil, List.reduceReplicate, Nat.reduceAdd, Nat.reduceSub, Nat.zero_add, List.append_nil, Nat.reduceLeDiff, Int.reduceEq, Int.reduceLT, Int.reduceLE, Int.reduceGT, Int.reduceGE, Int.reduceNe, i_tup]
  refine (pkn (B := B + 21) (by rw [show B + 21 + 1 = B + 22 by omega]; exact D4) (by omega) (by simp) (by simp)).imp fun d s5 h => ?_
  obtain ⟨hd, D5, F5⟩ := h
  obtain ⟨y, rfl, y1, y2⟩ : ∃ y : Int, d = .int y ∧ 0 ≤ y ∧ y < 2 ^ n.toNat := by
    simp only [List.mem_cons, List.not_mem_nil, or_false] at hd
    rcases hd with rfl | rfl | rfl | rfl <;> exact ⟨_, rfl, by omega, by omega⟩
  obtain ⟨d, hdd⟩ : ∃ d : Int, d = 2 ^ n.toNat + y := ⟨_, rfl⟩
  have o : Ow kk a d n := ⟨n1, n2, by omega, by omega⟩
  have hd0 := o.dv.pos
  have b1 : bits a + bits d < 1000000 := by
    have e1 : bits a < 64 := bits_small (by omega)
    have e2 := o.dv.bits
    omega
  have b2 : bits ((2 : Int) ^ kk.toNat - 1) < 9000 := Nat.lt_trans (bits_small (by omega)) (by decide)
  have hr1 : (0 : Int) < 2 ^ kk.toNat - 1 := by omega
  have f0 : 0 ≤ a * d / (2 ^ kk.toNat - 1) := Int.ediv_nonneg (Int.mul_nonneg (by omega) (by omega)) (by omega)
  have e6 : ∀ s, opD .fdiv (.int (a * d)) (.int (2 ^ kk.toNat - 1)) (lv s) = some (.int (a * d / (2 ^ kk.toNat - 1)), lv s) := fun s => p_fdiv ⟨hr1, b2⟩
  obtain ⟨far, hf⟩ : ∃ far : Int, far = a * d / (2 ^ kk.toNat - 1) := ⟨_, rfl⟩
  rw [← hf] at f0 e6
  have fb : far < 2 ^ 62 := by
    have q0 : 0 ≤ a * d := Int.mul_nonneg (by omega) (by omega)
    have q1 : a * d / (2 ^ kk.toNat - 1) ≤ a * d := Int.ediv_le_self _ q0
    have q2 : a * d ≤ 7 * d := Int.mul_le_mul_of_nonneg_right (by omega) (by omega)
    have q3 := o.hi
    have q4 : (2 : Int) ^ 40 = 1099511627776 := by decide +kernel
    omega
  have b3 : bits 2 + bits far < 1000000 := by
    have e1 : bits far < 64 := bits_small (by omega)
    have e2 : bits 2 < 64 := by decide
    omega
  simp only [evAll0, evAll1, evAll2, evAll3, evAll4, evAll5, evAll6, Bool.not_true, Bool.not_false, decide_true, decide_false, mk_ft, Option.map_some, List.cons_append, List.nil_append, env0, List.map_cons, List.map_nil, List.length_cons, List.length_nil, List.reduceReplicate, Nat.reduceAdd, Nat.reduceSub, Nat.zero_add, List.append_nil, Nat.reduceLeDiff, Int.reduceEq, Int.reduceLT, Int.reduceLE, Int.reduceGT, Int.reduceGE, Int.reduceNe, i_tup, ← hdd, p_mul b1, e6]
  refine (draw (B := B + 20) (by rw [show B + 20 + 1 = B + 21 by omega]; exact D5) (by omega) (by decide)).imp fun d' s6 h => ?_
  obtain ⟨⟨w, rfl, w0, w1⟩, D6, F6⟩ := h
  simp only [evAll0, evAll1, evAll2, evAll3, evAll4, evAll5, evAll6, Bool.not_true, Bool.not_false, decide_true, decide_false, mk_ft, Option.map_some, List.cons_append, List.nil_append, env0, List.map_cons, List.map_nil, List.length_cons, List.length_nil, List.reduceReplicate, Nat.reduceAdd, Nat.reduceSub, Nat.zero_add, List.append_nil, Nat.reduceLeDiff, Int.reduceEq, Int.reduceLT, Int.reduceLE, Int.reduceGT, Int.reduceGE, Int.reduceNe, i_tup, p_mul b3]
  refine (far_e (B := B + 17) (by rw [show B + 17 + 3 = B + 20 by omega]; exact D6) (by omega) (by omega)).imp fun d' s7 h => ?_
  obtain ⟨⟨r4, rfl, a6, a7⟩, D7, F7⟩ := h
  simp only [evAll0, evAll1, evAll2, evAll3, evAll4, evAll5, evAll6, Bool.not_true, Bool.not_false, decide_true, decide_false, mk_ft, Option.map_some, List.cons_append, List.nil_append, env0, List.map_cons, List.map_nil, List.length_cons, List.length_nil, List.reduceReplicate, Nat.reduceAdd, Nat.reduceSub, Nat.zero_add, List.append_nil, Nat.reduceLeDiff, Int.reduceEq, Int.reduceLT, Int.reduceLE, Int.reduceGT, Int.reduceGE, Int.reduceNe, i_tup]
  refine ⟨⟨d, n, w, r4 - far, o, w0, w1, ?_⟩, D7.le (by omega), (((((F1.trans F2).trans F3).trans F4).trans F5).trans F6).trans F7⟩
  rw [hf]
theorem in_w0 {s : Sto} : cmD .isin (.int 0) (.tup [.int 2, .int 3]) (lv s) = some (.bl false, lv s) := (in_int (ys := [2, 3]) (by decide +kernel)).trans (by congr 2)
theorem in_w1 {s : Sto} : cmD .isin (.int 1) (.tup [.int 2, .int 3]) (lv s) = some (.bl false, lv s) := (in_int (ys := [2, 3]) (by decide +kernel)).trans (by congr 2)
theorem in_w2 {s : Sto} : cmD .isin (.int 2) (.tup [.int 2, .int 3]) (lv s) = some (.bl true, lv s) := (in_int (ys := [2, 3]) (by decide +kernel)).trans (by congr 2)
theorem in_w3 {s : Sto} : cmD .isin (.int 3) (.tup [.int 2, .int 3]) (lv s) = some (.bl true, lv s) := (in_int (ys := [2, 3]) (by decide +kernel)).trans (by congr 2)
theorem in_w4 {s : Sto} : cmD .isin (.int 4) (.tup [.int 2, .int 3]) (lv s) = some (.bl false, lv s) := (in_int (ys := [2, 3]) (by decide +kernel)).trans (by congr 2)
theorem in_w5 {s : Sto} : cmD .isin (.int 5) (.tup [.int 2, .int 3]) (lv s) = some (.bl false, lv s) := (in_int (ys := [2, 3]) (by decide +kernel)).trans (by congr 2)
def MidN (n0 m0 : Nat) (B kk a d n far w : Int) (st : Sto) (e : Ev) (s : Sto) : Prop := (∃ x x10 x11, e = [some (.loc n0), some (sch kk a), some look0, some (.int (2 ^ kk.toNat)), some (.int a), some (.int n), some (.int d), some (.int far), some (.int w), some (.int x), x10, x11, none]) ∧ Dq "cells" s n0 m0 B ∧ Fr n0 m0 st s
theorem mid_w {s1 : Sto} {n0 m0 : Nat} {B kk a d n far w x : Int} (sc : Sc kk a) (o : Ow kk a d n) (D0 : Dq "cells" s1 n0 m0 (B + 10)) (hB : 0 ≤ B) (hw : cmD .isin (.int w) (.tup [.int 2, .int 3]) (lv s1) = some (.bl true, lv s1)) (h0 : decide (w = 0) = false) (h1 : decide (w = 1) = false) :
    Ens4 (evSs (mkC T fu (callF T fu (k + 2))) (takeS 3 (dropS 4 lb_operands_2)) [some (.loc n0), some (sch kk a), some look0, some (.int (2 ^ kk.toNat)), some (.int a), some (.int n), some (.int d), some (.int far), some (.int w), some (.int x), none, none, none] (lv s1)) (MidN n0 m0 B kk a d n far w s1) noD noE noE := by
  have g1 := r_cases sc.k1 sc.k3
  have n1 := o.n1
  have n2 := o.n2
  have olo := o.lo
  have ohi := o.hi
  have N0 : (0 : Int) < 2 ^ n.toNat := Int.pow_pos (by omega)
  have N1 := pw40 n2
  have n40 : (2 : Int) ^ 40 = 1099511627776 := by decide +kernel
  have eN : ∀ s, opD .shl (.int 1) (.int n) (lv s) = some (.int (1 * 2 ^ n.toNat), lv s) := fun s => p_shl ⟨by omega, by omega, by decide⟩
  rw [Int.one_mul] at eN
  have e2 : ∀ s, opD .shl (.int (d - 2 ^ n.toNat)) (.int 0) (lv s) = some (.int (d - 2 ^ n.toNat), lv s) := fun s => (p_shl ⟨by decide, by decide, Nat.lt_trans (bits_small (by omega)) (by decide)⟩).trans (by rw [show (2 : Int) ^ (0 : Int).toNat = 1 from rfl, Int.mul_one])
  have e3 : ∀ s, opD .shr (.int (d - 2 ^ n.toNat)) (.int n) (lv s) = some (.int 0, lv s) := fun s => (p_shr (by omega)).trans (by rw [Int.ediv_eq_zero_of_lt (by omega) (by omega)])
  obtain ⟨t, t0, t1, et⟩ := reached_e (fu := fu) (k := k + 1) (st := s1) sc
  simp only [evAll0, evAll1, evAll2, evAll3, evAll4, evAll5, evAll6, Bool.not_true, Bool.not_false, decide_true, decide_false, mk_ft, Option.map_some, List.cons_append, List.nil_append, env0, List.map_cons, List.map_nil, List.length_cons, List.length_nil, List.reduceReplicate, Nat.reduceAdd, Nat.reduceSub, Nat.zero_add, List.append_nil, Nat.reduceLeDiff, Int.reduceEq, Int.reduceLT, Int.reduceLE, Int.reduceGT, Int.reduceGE, Int.reduceNe, i_tup, takeS, dropS, lb_operands_2, h0, h1, hw, eN, e2, e3, et]
  refine (draw (B := B + 9) (by rw [show B + 9 + 1 = B + 10 by omega]; exact D0) (by omega) ⟨by omega, by omega⟩).imp fun d' s2 h => ?_
  obtain ⟨⟨r1, rfl, a0, a1⟩, D1, F1⟩ := h
  have e4 : ∀ s, opD .shl (.int (-t - 1 + r1)) (.int n) (lv s) = some (.int ((-t - 1 + r1) * 2 ^ n.toNat), lv s) := fun s => p_shl ⟨by omega, by omega, Nat.lt_trans (bits_small (by omega)) (by decide)⟩
  have e5 : ∀ s, opD .shl (.int (2 ^ kk.toNat)) (.int 0) (lv s) = some (.int (2 ^ kk.toNat), lv s) := fun s => (p_shl ⟨by decide, by decide, Nat.lt_trans (bits_small (by omega)) (by decide)⟩).trans (by rw [show (2 : Int) ^ (0 : Int).toNat = 1 from rfl, Int.mul_one])
  have e6 : ∀ s, opD .fdiv (.int ((-t - 1 + r1) * 2 ^ n.toNat)) (.int (2 ^ kk.toNat)) (lv s) = some (.int ((-t - 1 + r1) * 2 ^ n.toNat / 2 ^ kk.toNat), lv s) := fun s => p_fdiv ⟨by omega, Nat.lt_trans (bits_small (by omega)) (by decide)⟩
  simp only [evAll0, evAll1, evAll2, evAll3, evAll4, evAll5, evAll6, Bool.not_true, Bool.not_false, decide_true, decide_false, mk_ft, Option.map_some, List.cons_append, List.nil_append, env0, List.map_cons, List.map_nil, List.length_cons, List.length_nil, List.reduceReplicate, Nat.reduceAdd, Nat.reduceSub, Nat.zero_add, List.append_nil, Nat.reduceLeDiff, Int.reduceEq, Int.reduceLT, Int.reduceLE, Int.reduceGT, Int.reduceGE, Int.reduceNe, i_tup, e4, e5, e6]
  refine (draw (B := B) (D1.le (by omega)) (by omega) (by decide)).imp fun d' s3 h => ?_
  obtain ⟨⟨r2, rfl, a2, a3⟩, D2, F2⟩ := h
  simp only [evAll0, evAll1, evAll2, evAll3, evAll4, evAll5, evAll6, Bool.not_true, Bool.not_false, decide_true, decide_false, mk_ft, Option.map_some, List.cons_append, List.nil_append, env0, List.map_cons, List.map_nil, List.length_cons, List.length_nil, List.reduceReplicate, Nat.reduceAdd, Nat.reduceSub, Nat.zero_add, List.append_nil, Nat.reduceLeDiff, Int.reduceEq, Int.reduceLT, Int.reduceLE, Int.reduceGT, Int.reduceGE, Int.reduceNe, i_tup]
  exact ⟨⟨_, _, _, rfl⟩, D2, F1.trans F2⟩
theorem op_mid {s1 : Sto} {n0 m0 : Nat} {B kk a d n far w x : Int} (sc : Sc kk a) (o : Ow kk a d n) (hw : 0 ≤ w ∧ w < 6) (D0 : Dq "cells" s1 n0 m0 (B + 10)) (hB : 0 ≤ B) :
    Ens4 (evSs (mkC T fu (callF T fu (k + 2))) (takeS 3 (dropS 4 lb_operands_2)) [some (.loc n0), some (sch kk a), some look0, some (.int (2 ^ kk.toNat)), some (.int a), some (.int n), some (.int d), some (.int far), some (.int w), some (.int x), none, none, none] (lv s1)) (MidN n0 m0 B kk a d n far w s1) noD noE noE := by
  have : w = 0 ∨ w = 1 ∨ w = 2 ∨ w = 3 ∨ w = 4 ∨ w = 5 := by omega
  rcases this with rfl | rfl | rfl | rfl | rfl | rfl
  · simp only [evAll0, evAll1, evAll2, evAll3, evAll4, evAll5, evAll6, Bool.not_true, Bool.not_false, decide_true, decide_false, mk_ft, Option.map_some, List.cons_append, List.nil_append, env0, List.map_cons, List.map_nil, List.length_cons, List.length_nil, List.reduceReplicate, Nat.reduceAdd, Nat.reduceSub, Nat.zero_add, List.append_nil, Nat.reduceLeDiff, Int.reduceEq, Int.reduceLT, Int.reduceLE, Int.reduceGT, Int.reduceGE, Int.reduceNe, i_tup, takeS, dropS, lb_operands_2, in_w0]
    refine (pkn (B := B) (D0.le (by omega)) (by omega) (by simp) (by simp)).imp fun d' s2 h => ?_
    obtain ⟨hd, D2, F2⟩ := h
    obtain ⟨y, rfl⟩ : ∃ y : Int, d' = .int y := by
      simp only [List.mem_cons, List.not_mem_nil, or_false] at hd
      rcases hd with rfl | rfl | rfl | rfl <;> exact ⟨_, rfl⟩
    simp only [evAll0, evAll1, evAll2, evAll3, evAll4, evAll5, evAll6, Bool.not_true, Bool.not_false, decide_true, decide_false, mk_ft, Option.map_some, List.cons_append, List.nil_append, env0, List.map_cons, List.map_nil, List.length_cons, List.length_nil, List.reduceReplicate, Nat.reduceAdd, Nat.reduceSub, Nat.zero_add, List.append_nil, Nat.reduceLeDiff, Int.reduceEq, Int.reduceLT, Int.reduceLE, Int.reduceGT, Int.reduceGE, Int.reduceNe, i_tup, in_w0]
    exact ⟨⟨_, _, _, rfl⟩, D2, F2⟩
  · simp only [evAll0, evAll1, evAll2, evAll3, evAll4, evAll5, evAll6, Bool.not_true, Bool.not_false, decide_true, decide_false, mk_ft, Option.map_some, List.cons_append, List.nil_append, env0, List.map_cons, List.map_nil, List.length_cons, List.length_nil, List.reduceReplicate, Nat.reduceAdd, Nat.reduceSub, Nat.zero_add, List.append_nil, Nat.reduceLeDiff, Int.reduceEq, Int.reduceLT, Int.reduceLE, Int.reduceGT, Int.reduceGE, Int.reduceNe, i_tup, takeS, dropS, lb_operands_2, in_w1]
    refine (pkn (B := B) (D0.le (by omega)) (by omega) (by simp) (by simp)).imp fun d' s2 h => ?_
    obtain ⟨hd, D2, F2⟩ := h
    obtain ⟨y, rfl⟩ : ∃ y : Int, d' = .int y := by
      simp only [List.mem_cons, List.not_mem_nil, or_false] at hd
      rcases hd with rfl | rfl | rfl | rfl <;> exact ⟨_, rfl⟩
    simp only [evAll0, evAll1, evAll2, evAll3, evAll4, evAll5, evAll6, Bool.not_true, Bool.not_false, decide_true, decide_false, mk_ft, Option.map_some, List.cons_append, List.nil_append, env0, List.map_cons, List.map_nil, List.length_cons, List.length_nil, List.reduceReplicate, Nat.reduceAdd, Nat.reduceSub, Nat.zero_add, List.append_nil, Nat.reduceLeDiff, Int.reduceEq, Int.reduceLT, Int.reduceLE, Int.reduceGT, Int.reduceGE, Int.reduceNe, i_tup, in_w1]
    exact ⟨⟨_, _, _, rfl⟩, D2, F2⟩
  · exact mid_w sc o D0 hB in_w2 rfl rfl
  · exact mid_w sc o D0 hB in_w3 rfl rfl
  · simp only [evAll0, evAll1, evAll2, evAll3, evAll4, evAll5, evAll6, Bool.not_true, Bool.not_false, decide_true, decide_false, mk_ft, Option.map_some, List.cons_append, List.nil_append, env0, List.map_cons, List.map_nil, List.length_cons, List.length_nil, List.reduceReplicate, Nat.reduceAdd, Nat.reduceSub, Nat.zero_add, List.append_nil, Nat.reduceLeDiff, Int.reduceEq, Int.reduceLT, Int.reduceLE, Int.reduceGT, Int.reduceGE, Int.reduceNe, i_tup, takeS, dropS, lb_operands_2, in_w4]
    exact ⟨⟨_, _, _, rfl⟩, D0.le (by omega), Fr.refl _ _ _⟩
  · simp only [evAll0, evAll1, evAll2, evAll3, evAll4, evAll5, evAll6, Bool.not_true, Bool.not_false, decide_true, decide_false, mk_ft, Option.map_some, List.cons_append, List.nil_append, env0, List.map_cons, List.map_nil, List.length_cons, List.length_nil, List.reduceReplicate, Nat.reduceAdd, Nat.reduceSub, Nat.zero_add, List.append_nil, Nat.reduceLeDiff, Int.reduceEq, Int.reduceLT, Int.reduceLE, Int.reduceGT, Int.reduceGE, Int.reduceNe, i_tup, takeS, dropS, lb_operands_2, in_w5]
    exact ⟨⟨_, _, _, rfl⟩, D0.le (by omega), Fr.refl _ _ _⟩
theorem operands_e {st : Sto} {n0 m0 : Nat} {B kk a : Int} (sc : Sc kk a) (D0 : Dq "cells" st n0 m0 (B + 30)) (hB : 0 ≤ B) : EnsR (callF T fu (k + 3) 243 [.loc n0, sch kk a, look0] (lv st)) fun d' s => (∃ x d n, d' = .tup [.int x, .int d, .int n] ∧ Ow kk a d n ∧ Opd kk a x d n) ∧ Dq "cells" s n0 m0 B ∧ Fr n0 m0 st s := by
  rw [c_in (F := lf_operands_2) rfl, n_of]
  show Ens4 (evSs (mkC T fu (callF T fu (k + 2))) lb_operands_2 [some (.loc n0), some (sch kk a), some look0, none, none, none, none, none, none, none, none, none, none] (lv st)) _ _ _ _
  refine split_at 4 _ _ _ (Ens4.imp (op_head sc D0 hB) (fun e s1 h => ?_) (fun _ _ h => h.elim) (fun _ _ h => h.elim) (fun _ _ h => h.elim))
  obtain ⟨⟨d, n, w, x, o, w0, w1, rfl⟩, D1, F1⟩ := h
  refine split_at 3 _ _ _ (Ens4.imp (op_mid sc o ⟨w0, w1⟩ D1 hB) (fun e s2 h => ?_) (fun _ _ h => h.elim) (fun _ _ h => h.elim) (fun _ _ h => h.elim))
  obtain ⟨⟨x', x10, x11, rfl⟩, D2, F2⟩ := h
  have z := op_tail (fu := fu) (k := k + 2) (x := x') (x7 := some (.int (2 ^ kk.toNat))) (x8 := some (.int a)) (x10 := some (.int w)) (x11 := x10) (x12 := x11) sc o D2
  refine Ens4.imp z (fun _ _ h => h.elim) (fun d' s3 h => ?_) (fun _ _ h => h.elim) (fun _ _ h => h.elim)
  obtain ⟨⟨x2, rfl, op⟩, rfl⟩ := h
  exact ⟨⟨_, _, _, rfl, o, op⟩, D2, F1.trans F2⟩
theorem lrounded_e {st : Sto} {mo : Str} {t d : Int} (h : mo ∈ modes) (ht : (t.natAbs : Int) < 2 ^ 380) (hd : 0 < d ∧ d < 2 ^ 380) : callF T fu (k + 1) 336 [.int t, .int d, .str mo] (lv st) = .ok (.int (rnd mo t d)) (lv st) := by
  have q1 := Int.ediv_mul_add_emod t d
  have q2 := Int.emod_nonneg t (show d ≠ 0 by omega)
  have q3 := Int.emod_lt_of_pos t hd.1
  have n1 : (2 : Int) ^ 380 < 2 ^ 400 := by decide +kernel
  have hq : ((t / d).natAbs : Int) < 2 ^ 400 := by
    have := Int.natAbs_ediv_le_natAbs t d
    omega
  have b1 : bits (t / d) + bits d < 1000000 := by
    have e1 : bits (t / d) < 400 := bits_lt (by omega) (by omega)
    have e2 : bits d < 400 := bits_lt (by omega) (by omega)
    omega
  have b2 : bits d < 9000 := by
    have e2 : bits d < 400 := bits_lt (by omega) (by omega)
    omega
  have f1 : ∀ s, opD .fdiv (.int t) (.int d) (lv s) = some (.int (t / d), lv s) := fun s => p_fdiv ⟨hd.1, b2⟩
  have f2 : ∀ s, opD .mul (.int (t / d)) (.int d) (lv s) = some (.int (t / d * d), lv s) := fun s => p_mul b1
  have neg : t - t / d * d ≠ 0 → (t < 0 ↔ t / d < 0) := fun _ => by
    constructor
    · intro h
      exact Int.ediv_neg_of_neg_of_pos h hd.1
    · intro h
      by_cases c : t < 0
      · exact c
      · exact absurd (Int.ediv_nonneg (show 0 ≤ t by omega) (show 0 ≤ d by omega)) (by omega)
  obtain ⟨q, hqq⟩ : ∃ q, q = t / d := ⟨_, rfl⟩
  have rn : rnd mo t d = chs mo q (t - q * d) d := by rw [hqq]; rfl
  rw [rn]
  rw [← hqq] at f1 f2 neg q1
  obtain ⟨w, hw⟩ : ∃ w, w = t - q * d := ⟨_, rfl⟩
  have hw2 : (w.natAbs : Int) < 2 ^ 400 := by omega
  have b3 : bits 2 + bits w < 1000000 := by
    have e1 : bits w < 400 := bits_lt (by omega) (by omega)
    have e2 : bits 2 < 64 := by decide
    omega
  have m2 : ∀ s : Sto, opD .mod (.int q) (.int 2) (lv s) = some (.int (q % 2), lv s) := fun s => p_mod (by decide)
  rw [← hw] at neg ⊢
  rw [c_in (F := lf_rounded_0) rfl]
  by_cases c0 : w = 0
  · have r : chs mo q w d = q := if_pos (.inl c0)
    have c0' := decide_eq_true c0
    rw [r]
    simp only [evAll0, evAll1, evAll2, evAll3, evAll4, evAll5, evAll6, Bool.not_true, Bool.not_false, decide_true, decide_false, mk_ft, Option.map_some, List.cons_append, List.nil_append, env0, List.map_cons, List.map_nil, List.length_cons, List.length_nil, List.reduceReplicate, Nat.reduceAdd, Nat.reduceSub, Nat.zero_add, List.append_nil, Nat.reduceLeDiff, Int.reduceEq, Int.reduceLT, Int.reduceLE, Int.reduceGT, Int.reduceGE, Int.reduceNe, i_tup, lf_rounded_0, lb_rounded_0, f1, f2, ← hw, c0']
  · have c0' := decide_eq_false c0
    simp only [modes, List.mem_cons, List.not_mem_nil, or_false] at h
    rcases h with rfl | rfl | rfl | rfl
    · have e1 : decide (("down" : Str) = "down") = true := by decide
      have r : chs "down" q w d = q := if_pos (.inr rfl)
      rw [r]
      simp only [evAll0, evAll1, evAll2, evAll3, evAll4, evAll5, evAll6, Bool.not_true, Bool.not_false, decide_true, decide_false, mk_ft, Option.map_some, List.cons_append, List.nil_append, env0, List.map_cons, List.map_nil, List.length_cons, List.length_nil, List.reduceReplicate, Nat.reduceAdd, Nat.reduceSub, Nat.zero_add, List.append_nil, Nat.reduceLeDiff, Int.reduceEq, Int.reduceLT, Int.reduceLE, Int.reduceGT, Int.reduceGE, Int.reduceNe, i_tup, lf_rounded_0, lb_rounded_0, f1, f2, ← hw, c0', e1]
    · have e1 : decide (("up" : Str) = "down") = false := by decide
      have e2 : decide (("up" : Str) = "up") = true := by decide
      have e3 : decide (("up" : Str) = "even") = false := by decide
      have r : chs "up" q w d = q + 1 := (if_neg (fun z => z.elim c0 (by decide))).trans (if_pos rfl)
      rw [r]
      simp only [evAll0, evAll1, evAll2, evAll3, evAll4, evAll5, evAll6, Bool.not_true, Bool.not_false, decide_true, decide_false, mk_ft, Option.map_some, List.cons_append, List.nil_append, env0, List.map_cons, List.map_nil, List.length_cons, List.length_nil, List.reduceReplicate, Nat.reduceAdd, Nat.reduceSub, Nat.zero_add, List.append_nil, Nat.reduceLeDiff, Int.reduceEq, Int.reduceLT, Int.reduceLE, Int.reduceGT, Int.reduceGE, Int.reduceNe, i_tup, lf_rounded_0, lb_rounded_0, f1, f2, ← hw, c0', e1, e2, e3]
    · have e1 : decide (("zero" : Str) = "down") = false := by decide
      have e2 : decide (("zero" : Str) = "up") = false := by decide
      have e3 : decide (("zero" : Str) = "even") = false := by decide
      have r : chs "zero" q w d = if q < 0 then q + 1 else q := (if_neg (fun z => z.elim c0 (by decide))).trans ((if_neg (by decide)).trans (if_pos rfl))
      rw [r]
      by_cases c1 : q < 0
      · have c1' := decide_eq_true ((neg c0).mpr c1)
        rw [if_pos c1]
        simp only [evAll0, evAll1, evAll2, evAll3, evAll4, evAll5, evAll6, Bool.not_true, Bool.not_false, decide_true, decide_false, mk_ft, Option.map_some, List.cons_append, List.nil_append, env0, List.map_cons, List.map_nil, List.length_cons, List.length_nil, List.reduceReplicate, Nat.reduceAdd, Nat.reduceSub, Nat.zero_add, List.append_nil, Nat.reduceLeDiff, Int.reduceEq, Int.reduceLT, Int.reduceLE, Int.reduceGT, Int.reduceGE, Int.reduceNe, i_tup, lf_rounded_0, lb_rounded_0, f1, f2, ← hw, c0', e1, e2, e3, c1']
      · have c1' := decide_eq_false (fun z => c1 ((neg c0).mp z))
        rw [if_neg c1]
        simp only [evAll0, evAll1, evAll2, evAll3, evAll4, evAll5, evAll6, Bool.not_true, Bool.not_false, decide_true, decide_false, mk_ft, Option.map_some, List.cons_append, List.nil_append, env0, List.map_cons, List.map_nil, List.length_cons, List.length_nil, List.reduceReplicate, Nat.reduceAdd, Nat.reduceSub, Nat.zero_add, List.append_nil, Nat.reduceLeDiff, Int.reduceEq, Int.reduceLT, Int.reduceLE, Int.reduceGT, Int.reduceGE, Int.reduceNe, i_tup, lf_rounded_0, lb_rounded_0, f1, f2, ← hw, c0', e1, e2, e3, c1']
    · have e1 : decide (("even" : Str) = "down") = false := by decide
      have e3 : decide (("even" : Str) = "even") = true := by decide
      have r : chs "even" q w d = if 2 * w > d ∨ (2 * w = d ∧ q % 2 = 1) then q + 1 else q := (if_neg (fun z => z.elim c0 (by decide))).trans ((if_neg (by decide)).trans (if_neg (by decide)))
      rw [r]
      by_cases c1 : 2 * w > d
      · have c1' := decide_eq_true c1
        rw [if_pos (.inl c1)]
        simp only [evAll0, evAll1, evAll2, evAll3, evAll4, evAll5, evAll6, Bool.not_true, Bool.not_false, decide_true, decide_false, mk_ft, Option.map_some, List.cons_append, List.nil_append, env0, List.map_cons, List.map_nil, List.length_cons, List.length_nil, List.reduceReplicate, Nat.reduceAdd, Nat.reduceSub, Nat.zero_add, List.append_nil, Nat.reduceLeDiff, Int.reduceEq, Int.reduceLT, Int.reduceLE, Int.reduceGT, Int.reduceGE, Int.reduceNe, i_tup, lf_rounded_0, lb_rounded_0, f1, f2, ← hw, c0', e1, e3, c1', p_mul b3]
      · have c1' := decide_eq_false c1
        by_cases c2 : 2 * w = d
        · have c2' := decide_eq_true c2
          by_cases c3 : q % 2 = 1
          · have c3' := decide_eq_true c3
            rw [if_pos (.inr ⟨c2, c3⟩)]
            simp only [evAll0, evAll1, evAll2, evAll3, evAll4, evAll5, evAll6, Bool.not_true, Bool.not_false, decide_true, decide_false, mk_ft, Option.map_some, List.cons_append, List.nil_append, env0, List.map_cons, List.map_nil, List.length_cons, List.length_nil, List.reduceReplicate, Nat.reduceAdd, Nat.reduceSub, Nat.zero_add, List.append_nil, Nat.reduceLeDiff, Int.reduceEq, Int.reduceLT, Int.reduceLE, Int.reduceGT, Int.reduceGE, Int.reduceNe, i_tup, lf_rounded_0, lb_rounded_0, f1, f2, ← hw, c0', e1, e3, c1', c2', c3', p_mul b3, m2]
          · have c3' := decide_eq_false c3
            rw [if_neg (fun z => z.elim c1 (fun z => c3 z.2))]
            simp only [evAll0, evAll1, evAll2, evAll3, evAll4, evAll5, evAll6, Bool.not_true, Bool.not_false, decide_true, decide_false, mk_ft, Option.map_some, List.cons_append, List.nil_append, env0, List.map_cons, List.map_nil, List.length_cons, List.length_nil, List.reduceReplicate, Nat.reduceAdd, Nat.reduceSub, Nat.zero_add, List.append_nil, Nat.reduceLeDiff, Int.reduceEq, Int.reduceLT, Int.reduceLE, Int.reduceGT, Int.reduceGE, Int.reduceNe, i_tup, lf_rounded_0, lb_rounded_0, f1, f2, ← hw, c0', e1, e3, c1', c2', c3', p_mul b3, m2, Int.add_zero]
        · have c2' := decide_eq_false c2
          rw [if_neg (fun z => z.elim c1 (fun z => c2 z.1))]
          simp only [evAll0, evAll1, evAll2, evAll3, evAll4, evAll5, evAll6, Bool.not_true, Bool.not_false, decide_true, decide_false, mk_ft, Option.map_some, List.cons_append, List.nil_append, env0, List.map_cons, List.map_nil, List.length_cons, List.length_nil, List.reduceReplicate, Nat.reduceAdd, Nat.reduceSub, Nat.zero_add, List.append_nil, Nat.reduceLeDiff, Int.reduceEq, Int.reduceLT, Int.reduceLE, Int.reduceGT, Int.reduceGE, Int.reduceNe, i_tup, lf_rounded_0, lb_rounded_0, f1, f2, ← hw, c0', e1, e3, c1', c2', p_mul b3, m2, Int.add_zero]
theorem while_gcd {C : Ctx} {st : Sto} : ∀ (f a b : Nat), b < f → whileS (fun e s => evT C (.cmp .ne (.var 1) (.int 0)) e s) (fun e s => evSs C (.cons (.par2 0 1 (.var 1) (.op .mod (.blt .int (.cons (.var 0) .nil)) (.var 1))) .nil) e s) f [some (.int a), some (.int b)] (lv st) = .nx [some (.int (Nat.gcd a b : Nat)), some (.int 0)] (lv st) := by
  intro f
  induction f with
  | zero => intro a b h; omega
  | succ f ih =>
    intro a b h
    rw [whileS]
    by_cases c : b = 0
    · subst c
      have c' : decide (((0 : Nat) : Int) = 0) = true := by decide
      simp only [evAll0, evAll1, evAll2, evAll3, evAll4, evAll5, evAll6, Bool.not_true, Bool.not_false, decide_true, decide_false, mk_ft, Option.map_some, List.cons_append, List.nil_append, env0, List.map_cons, List.map_nil, List.length_cons, List.length_nil, List.reduceReplicate, Nat.reduceAdd, Nat.reduceSub, Nat.zero_add, List.append_nil, Nat.reduceLeDiff, Int.reduceEq, Int.reduceLT, Int.reduceLE, Int.reduceGT, Int.reduceGE, Int.reduceNe, i_tup, c', Nat.gcd_zero_right, Bool.false_eq_true, if_false]
      rfl
    · have c' : decide ((b : Int) = 0) = false := decide_eq_false (by omega)
      have m : ∀ s : Sto, opD .mod (.int a) (.int b) (lv s) = some (.int ((a % b : Nat) : Int), lv s) := fun s => (p_mod (by omega)).trans (by rw [Int.natCast_emod])
      simp only [evAll0, evAll1, evAll2, evAll3, evAll4, evAll5, evAll6, Bool.not_true, Bool.not_false, decide_true, decide_false, mk_ft, Option.map_some, List.cons_append, List.nil_append, env0, List.map_cons, List.map_nil, List.length_cons, List.length_nil, List.reduceReplicate, Nat.reduceAdd, Nat.reduceSub, Nat.zero_add, List.append_nil, Nat.reduceLeDiff, Int.reduceEq, Int.reduceLT, Int.reduceLE, Int.reduceGT, Int.reduceGE, Int.reduceNe, i_tup, c', m, if_true]
      have := Nat.mod_lt a (show 0 < b by omega)
      rw [ih b (a % b) (by omega), Nat.gcd_comm b, ← Nat.gcd_rec, Nat.gcd_comm]
theorem lcommon_e {st : Sto} {t d : Int} (hf : d.natAbs < fu) : callF T fu (k + 1) 332 [.int t, .int d] (lv st) = .ok (.int (Nat.gcd t.natAbs d.natAbs : Nat)) (lv st) := by
  have w := while_gcd (C := mkC T fu (callF T fu k)) (st := st) fu t.natAbs d.natAbs hf
  have hfu : (mkC T fu (callF T fu k)).fuel = fu := rfl
  rw [c_in (F := lf_common_1) rfl]
  simp only [evAll0, evAll1, evAll2, evAll3, evAll4, evAll5, evAll6, Bool.not_true, Bool.not_false, decide_true, decide_false, mk_ft, Option.map_some, List.cons_append, List.nil_append, env0, List.map_cons, List.map_nil, List.length_cons, List.length_nil, List.reduceReplicate, Nat.reduceAdd, Nat.reduceSub, Nat.zero_add, List.append_nil, Nat.reduceLeDiff, Int.reduceEq, Int.reduceLT, Int.reduceLE, Int.reduceGT, Int.reduceGE, Int.reduceNe, i_tup, lf_common_1, lb_common_1, b_abs, s_while, hfu, w]
theorem rp_new {st : Sto} {ds : List D} {ps : List PyData} {L : Nat} (h : Rps (lv (st ++ [.lst ds])) 4 L ds ps) (hL : ds.length * (L + 2) + 3 ≤ 16000000) : bfD .repr [.loc st.length] (lv (st ++ [.lst ds])) = some (.str (PyData.list ps).shown, lv (st ++ [.lst ds])) :=
  (rp_loc (st := lv (st ++ [.lst ds])) len_app h).b (by omega) hL
theorem rep7 {st : Sto} {x : D} : opD .mul (.loc st.length) (.int 7) (lv (st ++ [Ob.lst [x]])) = some (.loc (st ++ [Ob.lst [x]]).length, lv (st ++ [Ob.lst [x]] ++ [Ob.lst [x, x, x, x, x, x, x]])) := by
  have e : (st ++ [Ob.lst [x]])[st.length]? = some (.lst [x]) := len_app
  simp [opD, mul2D, mulD, alt2, int2, repT, repL, lv, e]
theorem rnd_big {mo : Str} {t d : Int} (ht : (t.natAbs : Int) < 2 ^ 380) : (rnd mo t d).natAbs < 2 ^ 1900 := by
  have hq : ((t / d).natAbs : Int) < 2 ^ 380 := by
    have := Int.natAbs_ediv_le_natAbs t d
    omega
  have h : ((rnd mo t d).natAbs : Int) ≤ 2 ^ 380 := by
    unfold rnd chs
    split
    · omega
    · split
      · omega
      · split
        · split <;> omega
        · split <;> omega
  have h1 : (rnd mo t d).natAbs ≤ 2 ^ 380 := by omega
  exact Nat.lt_of_le_of_lt h1 (Nat.pow_lt_pow_right (by omega) (by omega))
theorem sh_big {kk a x d n m : Int} (sc : Sc kk a) (o : Opd kk a x d n) (hm : 0 ≤ m ∧ m ≤ 41) : 0 ≤ kk * m ∧ kk * m ≤ 300 ∧ ((x * 2 ^ (kk * m).toNat).natAbs : Int) < 2 ^ 380 := by
  have hk := sc.k1
  have hk3 := sc.k3
  have wb := o.wbig sc
  have kj0 : 0 ≤ kk * m := Int.mul_nonneg (by omega) hm.1
  have kj1 : kk * m ≤ 300 := by
    have : kk * m ≤ 3 * m := Int.mul_le_mul_of_nonneg_right hk3 hm.1
    omega
  have p0 : (0 : Int) < 2 ^ (kk * m).toNat := Int.pow_pos (by omega)
  have p1 : (2 : Int) ^ (kk * m).toNat ≤ 2 ^ 300 := by
    have := Nat.pow_le_pow_right (n := 2) (by omega) (show (kk * m).toNat ≤ 300 by omega)
    exact_mod_cast this
  refine ⟨kj0, kj1, ?_⟩
  rw [Int.natAbs_mul]
  push_cast
  rw [show ((2 ^ (kk * m).toNat : Int).natAbs : Int) = 2 ^ (kk * m).toNat by omega]
  have h1 : (x.natAbs : Int) * 2 ^ (kk * m).toNat ≤ 2 ^ 64 * 2 ^ (kk * m).toNat := Int.mul_le_mul_of_nonneg_right (by omega) (by omega)
  have h2 : (2 : Int) ^ 64 * 2 ^ (kk * m).toNat ≤ 2 ^ 64 * 2 ^ 300 := Int.mul_le_mul_of_nonneg_left p1 (by decide +kernel)
  have h3 : (2 : Int) ^ 64 * 2 ^ 300 < 2 ^ 380 := by decide +kernel
  omega
theorem told_e {st : Sto} {kk a x d n m : Int} {mo : Str} (hf : 2 ^ 62 < fu) (sc : Sc kk a) (o : Opd kk a x d n) (hm : 0 ≤ m ∧ m ≤ 40) (h : mo ∈ modes) : EnsR (callF T fu (k + 7) 299 [sch kk a, .tup [.int x, .int d, .int n], .int m, .str mo] (lv st)) fun r s => r = .bl true ∧ ∃ more, s = st ++ more := by
  have hk := sc.k1
  have hk3 := sc.k3
  obtain ⟨s0, s1, ht⟩ := sh_big sc o (m := m) (by omega)
  have n2 : (2 : Int) ^ 61 < 2 ^ 380 := by decide +kernel
  have q3 := o.big
  have hd : 0 < d ∧ d < 2 ^ 380 := ⟨o.pos, by omega⟩
  have b1 : bits kk + bits m < 1000000 := by
    have e1 : bits kk < 64 := bits_small (by omega)
    have e2 : bits m < 64 := bits_small (by omega)
    omega
  have wb := o.wbig sc
  have bx : bits x < 1000000 := Nat.lt_trans (bits_small (by omega)) (by decide)
  have e1 : ∀ s, opD .shl (.int x) (.int (kk * m)) (lv s) = some (.int (x * 2 ^ (kk * m).toNat), lv s) := fun s => p_shl ⟨s0, by omega, bx⟩
  have e0 : ∀ s, opD .mul (.int kk) (.int m) (lv s) = some (.int (kk * m), lv s) := fun s => p_mul b1
  have X1 := fun s => exact_e P (fu := fu) (n := k) (st := s) sc (RemV.one x) o (j := m) (by omega) h
  have pr : ∀ p : Int, RemV "pair" (.tup [.int p, .int (x - p)]) x := fun p => by
    have z := RemV.pair p (x - p)
    have e : p + (x - p) = x := by omega
    rw [e] at z
    exact z
  have X2 := fun (p : Int) s => exact_e P (fu := fu) (n := k) (st := s) sc (pr p) o (j := m) (by omega) h
  obtain ⟨t, htt⟩ : ∃ t, t = x * 2 ^ (kk * m).toNat := ⟨_, rfl⟩
  rw [← htt] at ht e1
  simp only [← htt] at X1 X2
  have r1 := fun s => lrounded_e (fu := fu) (k := k + 5) (st := s) h ht hd
  have g1 := fun s => lcommon_e (fu := fu) (k := k + 5) (st := s) (t := t) (d := d) (by have := o.pos; omega)
  obtain ⟨g, hg⟩ : ∃ g, g = Nat.gcd t.natAbs d.natAbs := ⟨_, rfl⟩
  rw [← hg] at g1
  have gp : 0 < g := by rw [hg]; exact Nat.gcd_pos_of_pos_right _ (by omega)
  have gd : (g : Int) ∣ d := by rw [hg]; exact Int.ofNat_dvd_left.mpr (Nat.gcd_dvd_right _ _)
  have gt : (g : Int) ∣ t := by rw [hg]; exact Int.ofNat_dvd_left.mpr (Nat.gcd_dvd_left _ _)
  have gle : (g : Int) ≤ d := Int.le_of_dvd hd.1 gd
  have bg : bits (g : Int) < 9000 := by
    have : bits (g : Int) < 400 := bits_lt (by omega) (by omega)
    omega
  have f1 : ∀ s, opD .fdiv (.int t) (.int g) (lv s) = some (.int (t / g), lv s) := fun s => p_fdiv ⟨by omega, bg⟩
  have f2 : ∀ s, opD .fdiv (.int d) (.int g) (lv s) = some (.int (d / g), lv s) := fun s => p_fdiv ⟨by omega, bg⟩
  have t1 : t / g * g = t := Int.ediv_mul_cancel gt
  have d1 : d / g * g = d := Int.ediv_mul_cancel gd
  have dp : 0 < d / g := by
    by_cases c : 0 < d / (g : Int)
    · exact c
    · have := Int.mul_nonpos_of_nonpos_of_nonneg (show d / (g : Int) ≤ 0 by omega) (show (0 : Int) ≤ g by omega)
      omega
  have tb : ((t / g).natAbs : Int) < 2 ^ 380 := by
    have := Int.natAbs_ediv_le_natAbs t g
    omega
  have db : d / g < 2 ^ 380 := by
    have := Int.ediv_le_self (a := d) g (by omega)
    omega
  have cop : Nat.gcd (t / g).natAbs (d / g).natAbs = 1 := by
    rw [Int.natAbs_ediv_of_dvd gt, Int.natAbs_ediv_of_dvd gd, Int.natAbs_natCast, hg]
    exact Nat.gcd_div_gcd_div_gcd_of_pos_right (by omega)
  have R1 := fun s => rounded_e P (fu := fu) (n := k + 3) (st := s) h tb ⟨dp, db⟩ cop
  have sc1 : rnd mo (t / g) (d / g) = rnd mo t d := by
    have := rnd_scale (mo := mo) (t := t / g) (d := d / g) (g := g) (by omega) dp
    rw [t1, d1] at this
    exact this.symm
  rw [sc1] at R1
  have big := rnd_big (mo := mo) (t := t) (d := d) ht
  obtain ⟨u, hu⟩ : ∃ u, u = rnd mo t d := ⟨_, rfl⟩
  rw [← hu] at R1 X1 X2 r1 big
  have i30 : ∀ s, opD .pow (.int 10) (.int 30) (lv s) = some (.int (10 ^ 30), lv s) := fun s => p_pow (i := 10) (j := 30) (by decide)
  have i39 : ∀ s, opD .pow (.int 10) (.int 39) (lv s) = some (.int (10 ^ 39), lv s) := fun s => p_pow (i := 10) (j := 39) (by decide)
  have f7 : ∀ st : Sto, bfD .repr [.loc st.length] (lv (st ++ [.lst [.int u, .int u, .int u, .int u, .int u, .int u, .int u]])) = _ := fun st => rp_new (.cons (rp_int (k := 3) big) (.cons (rp_int big) (.cons (rp_int big) (.cons (rp_int big) (.cons (rp_int big) (.cons (rp_int big) (.cons (rp_int big) .nil))))))) (by simp)
  rw [c_in (F := lf_is_told_3) rfl]
  simp only [evAll0, evAll1, evAll2, evAll3, evAll4, evAll5, evAll6, Bool.not_true, Bool.not_false, decide_true, decide_false, mk_ft, Option.map_some, List.cons_append, List.nil_append, env0, List.map_cons, List.map_nil, List.length_cons, List.length_nil, List.reduceReplicate, Nat.reduceAdd, Nat.reduceSub, Nat.zero_add, List.append_nil, Nat.reduceLeDiff, Int.reduceEq, Int.reduceLT, Int.reduceLE, Int.reduceGT, Int.reduceGE, Int.reduceNe, i_tup, lf_is_told_3, lb_is_told_3, e0, e1, r1, X1, pick, List.filterMap_cons, List.filterMap_nil, List.getElem?_cons_zero, List.getElem?_cons_succ, i30, i39, s_for, i_tup]
  obtain ⟨ps, hps⟩ : ∃ ps : List Int, ps = [x, x + d, -10 ^ 30, 10 ^ 39] := ⟨_, rfl⟩
  have pl : ps.length = 4 := by rw [hps]; rfl
  have pD : ([D.int x, D.int (x + d), D.int (-10 ^ 30), D.int (10 ^ 39)] : List D) = ps.map D.int := by rw [hps]; rfl
  rw [pD]
  refine n_loop (fun i env s => s = st ++ [.lst (List.replicate (2 + i) (.int u))] ∧ ∃ z, env = [some (sch kk a), some (D.tup [D.int x, D.int d, D.int n]), some (D.int m), some (D.str mo), some (D.int x), some (D.int d), some (D.int n), some (D.int u), some (D.loc st.length), z, none]) ⟨rfl, _, rfl⟩ (fun i env s hi h => ?_) (fun env s h => ?_)
  · obtain ⟨rfl, z, rfl⟩ := h
    have hi : i < ps.length := by simpa [itTup] using hi
    have hl : (st ++ [Ob.lst (List.replicate (2 + i) (D.int u))])[st.length]? = some (.lst (List.replicate (2 + i) (.int u))) := len_app
    refine ⟨.int ps[i], _, by simp [itTup, hi], g_nm, ?_⟩
    simp only [evAll0, evAll1, evAll2, evAll3, evAll4, evAll5, evAll6, Bool.not_true, Bool.not_false, decide_true, decide_false, mk_ft, Option.map_some, List.cons_append, List.nil_append, env0, List.map_cons, List.map_nil, List.length_cons, List.length_nil, List.reduceReplicate, Nat.reduceAdd, Nat.reduceSub, Nat.zero_add, List.append_nil, Nat.reduceLeDiff, Int.reduceEq, Int.reduceLT, Int.reduceLE, Int.reduceGT, Int.reduceGE, Int.reduceNe, i_tup, X2, is_l hl, m_app hl (d := .int u) (by rw [List.length_replicate]; omega)]
    refine ⟨?_, _, rfl⟩
    show List.set (st ++ [_]) st.length _ = _
    rw [set_last, ← List.replicate_succ', Nat.add_assoc]
  · obtain ⟨rfl, z, rfl⟩ := h
    have hn : (itTup (ps.map D.int)).n = 4 := by simp [itTup, pl]
    refine ⟨rfl, ?_⟩
    rw [hn]
    have hl : (st ++ [Ob.lst [.int u, .int u, .int u, .int u, .int u, .int u]])[st.length]? = some (.lst [.int u, .int u, .int u, .int u, .int u, .int u]) := len_app
    have hs : List.set (st ++ [Ob.lst [.int u, .int u, .int u, .int u, .int u, .int u]]) st.length (Ob.lst [.int u, .int u, .int u, .int u, .int u, .int u, .int u]) = st ++ [Ob.lst [.int u, .int u, .int u, .int u, .int u, .int u, .int u]] := set_last
    simp only [evAll0, evAll1, evAll2, evAll3, evAll4, evAll5, evAll6, Bool.not_true, Bool.not_false, decide_true, decide_false, mk_ft, Option.map_some, List.cons_append, List.nil_append, env0, List.map_cons, List.map_nil, List.length_cons, List.length_nil, List.reduceReplicate, Nat.reduceAdd, Nat.reduceSub, Nat.zero_add, List.append_nil, Nat.reduceLeDiff, Int.reduceEq, Int.reduceLT, Int.reduceLE, Int.reduceGT, Int.reduceGE, Int.reduceNe, i_tup, e0, e1, g1, f1, f2, R1, is_l hl, m_app hl (d := .int u) (by simp), hs, f7, rep7]
    exact ⟨trivial, _, (List.append_assoc _ _ _).trans (List.append_assoc _ _ _)⟩
theorem Dq.more {s : Sto} {n m : Nat} {B : Int} : ∀ {more : Sto}, Dq "cells" s n m B → Dq "cells" (s ++ more) n m B
  | [], h => by rw [List.append_nil]; exact h
  | x :: l, h => by
    rw [show s ++ x :: l = (s ++ [x]) ++ l by simp]
    exact Dq.more h.app
def turnB : SL := forB (nthS 1 b_f_law)
def Fin (f : D) (n mm : Nat) (Bd : Int) (e : Ev) (s' : Sto) : Prop := Dq "cells" s' n mm Bd ∧ ∃ ys, e = some f :: some (.loc n) :: ys ∧ ys.length = 9
section
variable {s : Sto} {n0 mm : Nat} {Bd : Int} {f : D} {tn : Int}
/-- the operands and the number of steps -/
structure Tv (kk a x d n m : Int) : Prop extends Opd kk a x d n where
  sc : Sc kk a
  m0 : 0 ≤ m
  m1 : m ≤ 40
theorem exact1 {st : Sto} {mo : Str} {kk a w d n j : Int} (s : Sc kk a) (o : Opd kk a w d n) (hj : 0 ≤ j ∧ j ≤ 100) (hm : mo ∈ modes) : callF T fu (k + 7) 102 [sch kk a, .str "one", .tup [.int w, .int d, .int n], .int j, .str mo] (lv st) = .ok (.int (rnd mo (w * 2 ^ (kk * j).toNat) d)) (lv st) := exact_e P s (RemV.one w) o hj hm
theorem tail_ok {kk a x d n m : Int} {y10 : Option D} (hf : 2 ^ 62 < fu) (v : Tv kk a x d n m) (D0 : Dq "cells" s n0 mm Bd) :
    Ens4 (evSs (mkC T fu (callF T fu (k + 7))) (dropS 6 turnB) [some f, some (.loc n0), some (.int tn), some (sch kk a), some (.int m), some (.int x), some (.int d), some (.int n), some (.int (2 ^ kk.toNat)), some (.int (a * d / (2 ^ kk.toNat - 1))), y10] (lv s)) (Fin f n0 mm Bd) noD noE noE := by
  have sc := v.sc
  have h1 := r_cases sc.k1 sc.k3
  have hk := sc.k1
  have hk3 := sc.k3
  have m0 := v.m0
  have m1 := v.m1
  have wb := v.wbig sc
  have dn := v.pos
  have ng : Opd kk a (-x) d n := ⟨v.toDv, by rw [Int.natAbs_neg]; exact v.wi⟩
  have bx : bits (2 ^ kk.toNat) + bits x < 1000000 := by
    have e1 : bits ((2 : Int) ^ kk.toNat) < 64 := bits_small (by omega)
    have e2 : bits x < 64 := bits_small (by omega)
    omega
  have i1 : ("down" : Str) ∈ modes := by simp [modes]
  have i2 : ("up" : Str) ∈ modes := by simp [modes]
  have i4 : ("even" : Str) ∈ modes := by simp [modes]
  have E1 := fun s => exact1 (fu := fu) (k := k) (st := s) sc ng (j := m) (by omega) i1
  have E2 := fun s => exact1 (fu := fu) (k := k) (st := s) sc v.toOpd (j := m) (by omega) i2
  have E4 := fun s => exact1 (fu := fu) (k := k) (st := s) sc v.toOpd (j := m + 1) (by omega) i4
  rw [Int.neg_mul, rnd_neg dn] at E1
  generalize hN : Fin f n0 mm Bd = N
  simp only [evAll0, evAll1, evAll2, evAll3, evAll4, evAll5, evAll6, Bool.not_true, Bool.not_false, decide_true, decide_false, mk_ft, Option.map_some, List.cons_append, List.nil_append, env0, List.map_cons, List.map_nil, List.length_cons, List.length_nil, List.reduceReplicate, Nat.reduceAdd, Nat.reduceSub, Nat.zero_add, List.append_nil, Nat.reduceLeDiff, Int.reduceEq, Int.reduceLT, Int.reduceLE, Int.reduceGT, Int.reduceGE, Int.reduceNe, i_tup, turnB, b_f_law, forB, nthS, dropS, s_for, i_tup]
  refine n_loop (fun i env s' => Dq "cells" s' n0 mm Bd ∧ ∃ z, env = [some f, some (.loc n0), some (.int tn), some (sch kk a), some (.int m), some (.int x), some (.int d), some (.int n), some (.int (2 ^ kk.toNat)), some (.int (a * d / (2 ^ kk.toNat - 1))), z]) ⟨D0, _, rfl⟩ (fun i env s hi h => ?_) (fun env s h => ?_)
  · obtain ⟨D1, z, rfl⟩ := h
    obtain ⟨mo, hmo, ei⟩ : ∃ mo ∈ modes, ([D.str "down", D.str "up", D.str "zero", D.str "even"] : List D)[i]? = some (.str mo) := by
      have hi : i < 4 := hi
      have : i = 0 ∨ i = 1 ∨ i = 2 ∨ i = 3 := by omega
      rcases this with rfl | rfl | rfl | rfl <;> exact ⟨_, by simp [modes], rfl⟩
    refine ⟨.str mo, _, ei, g_nm, ?_⟩
    simp only [evAll0, evAll1, evAll2, evAll3, evAll4, evAll5, evAll6, Bool.not_true, Bool.not_false, decide_true, decide_false, mk_ft, Option.map_some, List.cons_append, List.nil_append, env0, List.map_cons, List.map_nil, List.length_cons, List.length_nil, List.reduceReplicate, Nat.reduceAdd, Nat.reduceSub, Nat.zero_add, List.append_nil, Nat.reduceLeDiff, Int.reduceEq, Int.reduceLT, Int.reduceLE, Int.reduceGT, Int.reduceGE, Int.reduceNe, i_tup]
    refine (told_e (k := k) hf sc v.toOpd ⟨m0, m1⟩ hmo).imp fun r s' h => ?_
    obtain ⟨rfl, more, rfl⟩ := h
    simp only [evAll0, evAll1, evAll2, evAll3, evAll4, evAll5, evAll6, Bool.not_true, Bool.not_false, decide_true, decide_false, mk_ft, Option.map_some, List.cons_append, List.nil_append, env0, List.map_cons, List.map_nil, List.length_cons, List.length_nil, List.reduceReplicate, Nat.reduceAdd, Nat.reduceSub, Nat.zero_add, List.append_nil, Nat.reduceLeDiff, Int.reduceEq, Int.reduceLT, Int.reduceLE, Int.reduceGT, Int.reduceGE, Int.reduceNe, i_tup]
    exact ⟨Dq.more D1, _, rfl⟩
  · obtain ⟨D1, z, rfl⟩ := h
    refine ⟨rfl, ?_⟩
    have c1 : decide (-rnd "up" (x * 2 ^ (kk * m).toNat) d = -rnd "up" (x * 2 ^ (kk * m).toNat) d) = true := by simp
    simp only [evAll0, evAll1, evAll2, evAll3, evAll4, evAll5, evAll6, Bool.not_true, Bool.not_false, decide_true, decide_false, mk_ft, Option.map_some, List.cons_append, List.nil_append, env0, List.map_cons, List.map_nil, List.length_cons, List.length_nil, List.reduceReplicate, Nat.reduceAdd, Nat.reduceSub, Nat.zero_add, List.append_nil, Nat.reduceLeDiff, Int.reduceEq, Int.reduceLT, Int.reduceLE, Int.reduceGT, Int.reduceGE, Int.reduceNe, i_tup, E1, E2, c1, p_mul bx, b_abs]
    by_cases c : ((2 ^ kk.toNat * x).natAbs : Int) ≤ a * d / (2 ^ kk.toNat - 1)
    · have c' := decide_eq_true c
      by_cases c2 : m < 40
      · have c2' := decide_eq_true c2
        have rx : Opd kk a (2 ^ kk.toNat * x) d n := ⟨v.toDv, by
          have q1 : a * d / (2 ^ kk.toNat - 1) * (2 ^ kk.toNat - 1) ≤ a * d := Int.ediv_mul_le _ (by omega)
          have q3 := Int.mul_le_mul_of_nonneg_right c (show (0 : Int) ≤ 2 ^ kk.toNat - 1 by omega)
          exact Int.le_trans q3 q1⟩
        have E3 := fun s => exact1 (fu := fu) (k := k) (st := s) sc rx (j := m) (by omega) i4
        have kj0 : 0 ≤ kk * m := Int.mul_nonneg (by omega) m0
        have ee : (2 : Int) ^ kk.toNat * x * 2 ^ (kk * m).toNat = x * 2 ^ (kk * (m + 1)).toNat := by
          have e1 : (kk * (m + 1)).toNat = kk.toNat + (kk * m).toNat := by
            rw [Int.mul_add, Int.mul_one]
            omega
          rw [e1, Int.pow_add, Int.mul_comm ((2 : Int) ^ kk.toNat) x, Int.mul_assoc]
        rw [ee] at E3
        have c3 : decide (rnd "even" (x * 2 ^ (kk * (m + 1)).toNat) d = rnd "even" (x * 2 ^ (kk * (m + 1)).toNat) d) = true := by simp
        simp only [evAll0, evAll1, evAll2, evAll3, evAll4, evAll5, evAll6, Bool.not_true, Bool.not_false, decide_true, decide_false, mk_ft, Option.map_some, List.cons_append, List.nil_append, env0, List.map_cons, List.map_nil, List.length_cons, List.length_nil, List.reduceReplicate, Nat.reduceAdd, Nat.reduceSub, Nat.zero_add, List.append_nil, Nat.reduceLeDiff, Int.reduceEq, Int.reduceLT, Int.reduceLE, Int.reduceGT, Int.reduceGE, Int.reduceNe, i_tup, c', c2', E3, E4, c3, p_mul bx]
        subst hN
        exact ⟨D1, _, rfl, rfl⟩
      · have c2' := decide_eq_false c2
        simp only [evAll0, evAll1, evAll2, evAll3, evAll4, evAll5, evAll6, Bool.not_true, Bool.not_false, decide_true, decide_false, mk_ft, Option.map_some, List.cons_append, List.nil_append, env0, List.map_cons, List.map_nil, List.length_cons, List.length_nil, List.reduceReplicate, Nat.reduceAdd, Nat.reduceSub, Nat.zero_add, List.append_nil, Nat.reduceLeDiff, Int.reduceEq, Int.reduceLT, Int.reduceLE, Int.reduceGT, Int.reduceGE, Int.reduceNe, i_tup, c', c2']
        subst hN
        exact ⟨D1, _, rfl, rfl⟩
    · have c' := decide_eq_false c
      simp only [evAll0, evAll1, evAll2, evAll3, evAll4, evAll5, evAll6, Bool.not_true, Bool.not_false, decide_true, decide_false, mk_ft, Option.map_some, List.cons_append, List.nil_append, env0, List.map_cons, List.map_nil, List.length_cons, List.length_nil, List.reduceReplicate, Nat.reduceAdd, Nat.reduceSub, Nat.zero_add, List.append_nil, Nat.reduceLeDiff, Int.reduceEq, Int.reduceLT, Int.reduceLE, Int.reduceGT, Int.reduceGE, Int.reduceNe, i_tup, c']
      subst hN
      exact ⟨D1, _, rfl, rfl⟩
theorem clip_ok {kk a x d n : Int} (sc : Sc kk a) (o : Ow kk a d n) : Opd kk a (min (max x (-(a * d / (2 ^ kk.toNat - 1)))) (a * d / (2 ^ kk.toNat - 1))) d n := by
  refine ⟨o.dv, ?_⟩
  have h1 := r_cases sc.k1 sc.k3
  have h2 := sc.hi
  have h3 := sc.lo
  have hd := o.dv.pos
  obtain ⟨r, hr⟩ : ∃ r : Int, r = 2 ^ kk.toNat := ⟨_, rfl⟩
  rw [← hr] at h1 h2 h3 ⊢
  have q1 : a * d / (r - 1) * (r - 1) ≤ a * d := Int.ediv_mul_le _ (by omega)
  have q0 : 0 ≤ a * d / (r - 1) := Int.ediv_nonneg (Int.mul_nonneg (by omega) (by omega)) (by omega)
  have q2 : ((min (max x (-(a * d / (r - 1)))) (a * d / (r - 1))).natAbs : Int) ≤ a * d / (r - 1) := by omega
  have q3 := Int.mul_le_mul_of_nonneg_right q2 (show 0 ≤ r - 1 by omega)
  omega
theorem turn_ok {x3 x4 x5 x6 x7 x8 x9 x10 : Option D} (hf : 2 ^ 62 < fu) (ht : 0 ≤ tn ∧ tn < 6) (D0 : Dq "cells" s n0 mm (Bd + 100)) (hB : 0 ≤ Bd) :
    Ens4 (evSs (mkC T fu (callF T fu (k + 7))) turnB [some f, some (.loc n0), some (.int tn), x3, x4, x5, x6, x7, x8, x9, x10] (lv s)) (Fin f n0 mm Bd) noD noE noE := by
  refine split_at 6 _ _ _ ?_
  generalize hN : (fun e s => Ens4 (evSs (mkC T fu (callF T fu (k + 7))) (dropS 6 turnB) e (lv s)) (Fin f n0 mm Bd) noD noE noE) = N
  simp only [evAll0, evAll1, evAll2, evAll3, evAll4, evAll5, evAll6, Bool.not_true, Bool.not_false, decide_true, decide_false, mk_ft, Option.map_some, List.cons_append, List.nil_append, env0, List.map_cons, List.map_nil, List.length_cons, List.length_nil, List.reduceReplicate, Nat.reduceAdd, Nat.reduceSub, Nat.zero_add, List.append_nil, Nat.reduceLeDiff, Int.reduceEq, Int.reduceLT, Int.reduceLE, Int.reduceGT, Int.reduceGE, Int.reduceNe, i_tup, turnB, b_f_law, forB, nthS, takeS]
  refine (scheme_e (k := k + 4) (B := Bd + 98) (by rw [show Bd + 98 + 2 = Bd + 100 by omega]; exact D0) (by omega)).imp fun d s1 h => ?_
  obtain ⟨⟨kk, a, rfl, sc⟩, D1, F1⟩ := h
  simp only [evAll0, evAll1, evAll2, evAll3, evAll4, evAll5, evAll6, Bool.not_true, Bool.not_false, decide_true, decide_false, mk_ft, Option.map_some, List.cons_append, List.nil_append, env0, List.map_cons, List.map_nil, List.length_cons, List.length_nil, List.reduceReplicate, Nat.reduceAdd, Nat.reduceSub, Nat.zero_add, List.append_nil, Nat.reduceLeDiff, Int.reduceEq, Int.reduceLT, Int.reduceLE, Int.reduceGT, Int.reduceGE, Int.reduceNe, i_tup]
  refine (draw (B := Bd + 97) (by rw [show Bd + 97 + 1 = Bd + 98 by omega]; exact D1) (by omega) (by decide)).imp fun d s2 h => ?_
  obtain ⟨⟨r1, rfl, a0, a1⟩, D2, F2⟩ := h
  simp only [evAll0, evAll1, evAll2, evAll3, evAll4, evAll5, evAll6, Bool.not_true, Bool.not_false, decide_true, decide_false, mk_ft, Option.map_some, List.cons_append, List.nil_append, env0, List.map_cons, List.map_nil, List.length_cons, List.length_nil, List.reduceReplicate, Nat.reduceAdd, Nat.reduceSub, Nat.zero_add, List.append_nil, Nat.reduceLeDiff, Int.reduceEq, Int.reduceLT, Int.reduceLE, Int.reduceGT, Int.reduceGE, Int.reduceNe, i_tup]
  refine (pkn (B := Bd + 96) (by rw [show Bd + 96 + 1 = Bd + 97 by omega]; exact D2) (by omega) (by simp) (by simp)).imp fun d s3 h => ?_
  obtain ⟨hd, D3, F3⟩ := h
  obtain ⟨m, rfl, m0, m1⟩ : ∃ m : Int, d = .int m ∧ 0 ≤ m ∧ m ≤ 40 := by
    simp only [List.mem_cons, List.not_mem_nil, or_false] at hd
    rcases hd with rfl | rfl | rfl | rfl | rfl | rfl <;> exact ⟨_, rfl, by omega, by omega⟩
  simp only [evAll0, evAll1, evAll2, evAll3, evAll4, evAll5, evAll6, Bool.not_true, Bool.not_false, decide_true, decide_false, mk_ft, Option.map_some, List.cons_append, List.nil_append, env0, List.map_cons, List.map_nil, List.length_cons, List.length_nil, List.reduceReplicate, Nat.reduceAdd, Nat.reduceSub, Nat.zero_add, List.append_nil, Nat.reduceLeDiff, Int.reduceEq, Int.reduceLT, Int.reduceLE, Int.reduceGT, Int.reduceGE, Int.reduceNe, i_tup]
  refine (operands_e (k := k + 4) (B := Bd + 60) sc (D3.le (by omega)) (by omega)).imp fun d s4 h => ?_
  obtain ⟨⟨x, d, n, rfl, o, op⟩, D4, F4⟩ := h
  have hk := sc.k1
  have hk3 := sc.k3
  have g1 := r_cases sc.k1 sc.k3
  have g2 := sc.hi
  have g3 := sc.lo
  have n1 := o.n1
  have n2 := o.n2
  have N0 : (0 : Int) < 2 ^ n.toNat := Int.pow_pos (by omega)
  have eK : ∀ s, opD .shl (.int 1) (.int kk) (lv s) = some (.int (1 * 2 ^ kk.toNat), lv s) := fun s => p_shl ⟨by omega, by omega, by decide⟩
  rw [Int.one_mul] at eK
  have eN : ∀ s, opD .shl (.int 1) (.int n) (lv s) = some (.int (1 * 2 ^ n.toNat), lv s) := fun s => p_shl ⟨by omega, by omega, by decide⟩
  rw [Int.one_mul] at eN
  have hr1 : (0 : Int) < 2 ^ kk.toNat - 1 := by omega
  have b2 : bits ((2 : Int) ^ kk.toNat - 1) < 9000 := Nat.lt_trans (bits_small (by omega)) (by decide)
  have b3 : bits ((2 : Int) ^ kk.toNat) < 9000 := Nat.lt_trans (bits_small (by omega)) (by decide)
  have e6 : ∀ y s, opD .fdiv (.int y) (.int (2 ^ kk.toNat - 1)) (lv s) = some (.int (y / (2 ^ kk.toNat - 1)), lv s) := fun y s => p_fdiv ⟨hr1, b2⟩
  have e7 : ∀ y s, opD .fdiv (.int y) (.int (2 ^ kk.toNat)) (lv s) = some (.int (y / (2 ^ kk.toNat)), lv s) := fun y s => p_fdiv ⟨by omega, b3⟩
  have e8 : ∀ y s, opD .fdiv (.int y) (.int 2) (lv s) = some (.int (y / 2), lv s) := fun y s => p_fdiv ⟨by decide, by decide⟩
  have bm : ∀ {d : Int}, Ow kk a d n → bits a + bits d < 1000000 := fun o => by
    have e1 : bits a < 64 := bits_small (by omega)
    have e2 := o.dv.bits
    omega
  have fin : ∀ {d x : Int} {s5 : Sto}, Ow kk a d n → Dq "cells" s5 n0 mm Bd → N [some f, some (.loc n0), some (.int tn), some (sch kk a), some (.int m), some (.int (min (max x (-(a * d / (2 ^ kk.toNat - 1)))) (a * d / (2 ^ kk.toNat - 1)))), some (.int d), some (.int n), some (.int (2 ^ kk.toNat)), some (.int (a * d / (2 ^ kk.toNat - 1))), x10] (lv s5) := fun {d x s5} o D5 => by
    subst hN
    exact tail_ok (k := k) hf ⟨clip_ok sc o, sc, m0, m1⟩ D5
  by_cases c4 : tn = 4
  · have o2 : Ow kk a (2 ^ n.toNat) n := ⟨n1, n2, by omega, by omega⟩
    have c4' := decide_eq_true c4
    have c5' : decide (tn = 5) = false := decide_eq_false (by omega)
    simp only [evAll0, evAll1, evAll2, evAll3, evAll4, evAll5, evAll6, Bool.not_true, Bool.not_false, decide_true, decide_false, mk_ft, Option.map_some, List.cons_append, List.nil_append, env0, List.map_cons, List.map_nil, List.length_cons, List.length_nil, List.reduceReplicate, Nat.reduceAdd, Nat.reduceSub, Nat.zero_add, List.append_nil, Nat.reduceLeDiff, Int.reduceEq, Int.reduceLT, Int.reduceLE, Int.reduceGT, Int.reduceGE, Int.reduceNe, i_tup, eK, eN, c4', c5', p_mul (bm o2), e6]
    exact fin o2 (D4.le (by omega))
  · have c4' := decide_eq_false c4
    by_cases c5 : tn = 5
    · have c5' := decide_eq_true c5
      simp only [evAll0, evAll1, evAll2, evAll3, evAll4, evAll5, evAll6, Bool.not_true, Bool.not_false, decide_true, decide_false, mk_ft, Option.map_some, List.cons_append, List.nil_append, env0, List.map_cons, List.map_nil, List.length_cons, List.length_nil, List.reduceReplicate, Nat.reduceAdd, Nat.reduceSub, Nat.zero_add, List.append_nil, Nat.reduceLeDiff, Int.reduceEq, Int.reduceLT, Int.reduceLE, Int.reduceGT, Int.reduceGE, Int.reduceNe, i_tup, eK, c4', c5', p_mul (bm o), e6, e7, e8]
      refine (pkn (k := k + 5) (B := Bd + 59) (by rw [show Bd + 59 + 1 = Bd + 60 by omega]; exact D4) (by omega) (by simp) (by simp)).imp fun d' s5 h => ?_
      obtain ⟨hd, D5, F5⟩ := h
      obtain ⟨y, rfl⟩ : ∃ y : Int, d' = .int y := by
        simp only [List.mem_cons, List.not_mem_nil, or_false] at hd
        rcases hd with rfl | rfl | rfl | rfl <;> exact ⟨_, rfl⟩
      simp only [evAll0, evAll1, evAll2, evAll3, evAll4, evAll5, evAll6, Bool.not_true, Bool.not_false, decide_true, decide_false, mk_ft, Option.map_some, List.cons_append, List.nil_append, env0, List.map_cons, List.map_nil, List.length_cons, List.length_nil, List.reduceReplicate, Nat.reduceAdd, Nat.reduceSub, Nat.zero_add, List.append_nil, Nat.reduceLeDiff, Int.reduceEq, Int.reduceLT, Int.reduceLE, Int.reduceGT, Int.reduceGE, Int.reduceNe, i_tup]
      exact fin o (D5.le (by omega))
    · have c5' := decide_eq_false c5
      simp only [evAll0, evAll1, evAll2, evAll3, evAll4, evAll5, evAll6, Bool.not_true, Bool.not_false, decide_true, decide_false, mk_ft, Option.map_some, List.cons_append, List.nil_append, env0, List.map_cons, List.map_nil, List.length_cons, List.length_nil, List.reduceReplicate, Nat.reduceAdd, Nat.reduceSub, Nat.zero_add, List.append_nil, Nat.reduceLeDiff, Int.reduceEq, Int.reduceLT, Int.reduceLE, Int.reduceGT, Int.reduceGE, Int.reduceNe, i_tup, eK, c4', c5', p_mul (bm o), e6]
      exact fin o (D4.le (by omega))
end
end
theorem pure : Pure T 199 63 := by
  intro ns hl hb
  have h : EnsR (callF T (2 ^ 63) 12 199 [.fz (ns.map D.int)] (lv [])) fun d s => d = .bl true := by
    have hf : 2 ^ 62 < 2 ^ 63 := by decide
    generalize 2 ^ 63 = fu at hf ⊢
    rw [c_in (F := f_law) rfl]
    simp only [evAll0, evAll1, evAll2, evAll3, evAll4, evAll5, evAll6, Bool.not_true, Bool.not_false, decide_true, decide_false, mk_ft, Option.map_some, List.cons_append, List.nil_append, env0, List.map_cons, List.map_nil, List.length_cons, List.length_nil, List.reduceReplicate, Nat.reduceAdd, Nat.reduceSub, Nat.zero_add, List.append_nil, Nat.reduceLeDiff, Int.reduceEq, Int.reduceLT, Int.reduceLE, Int.reduceGT, Int.reduceGE, Int.reduceNe, i_tup, f_law, b_f_law]
    refine (dk (by omega)).imp fun d s h => ?_
    obtain ⟨n, m, rfl, D0⟩ := h
    simp only [evAll0, evAll1, evAll2, evAll3, evAll4, evAll5, evAll6, Bool.not_true, Bool.not_false, decide_true, decide_false, mk_ft, Option.map_some, List.cons_append, List.nil_append, env0, List.map_cons, List.map_nil, List.length_cons, List.length_nil, List.reduceReplicate, Nat.reduceAdd, Nat.reduceSub, Nat.zero_add, List.append_nil, Nat.reduceLeDiff, Int.reduceEq, Int.reduceLT, Int.reduceLE, Int.reduceGT, Int.reduceGE, Int.reduceNe, i_tup, s_for, r1_e (j := 6) (st := s) (by decide)]
    refine n_loop (fun i env s => Dq "cells" s n m (2 ^ 38 - 100 * i) ∧ ∃ xs : List (Option D), env = some (.fz (ns.map D.int)) :: some (.loc n) :: xs ∧ xs.length = 9) ⟨D0.le (by omega), _, rfl, rfl⟩ (fun i env s hi h => ?_) (fun env s h => ?_)
    · obtain ⟨D0, xs, rfl, hx⟩ := h
      obtain ⟨x2, x3, x4, x5, x6, x7, x8, x9, x10, rfl⟩ : ∃ a b c d e f g h i, xs = [a, b, c, d, e, f, g, h, i] := by
        match xs, hx with
        | [a, b, c, d, e, f, g, h, i], _ => exact ⟨a, b, c, d, e, f, g, h, i, rfl⟩
      have hi : i < 6 := hi
      refine ⟨_, _, rfl, g_nm, ?_⟩
      have z := turn_ok (k := 4) (s := s) (n0 := n) (mm := m) (f := .fz (ns.map D.int)) (tn := 0 + (i : Int) * 1) (x3 := x3) (x4 := x4) (x5 := x5) (x6 := x6) (x7 := x7) (x8 := x8) (x9 := x9) (x10 := x10) hf ⟨by omega, by omega⟩ (Bd := 2 ^ 38 - 100 * ((i + 1 : Nat) : Int)) (D0.le (by omega)) (by omega)
      refine Ens4.imp z (fun e s' h => h) (fun _ _ h => h.elim) (fun _ _ h => h.elim) (fun _ _ h => h.elim)
    · obtain ⟨D0, xs, rfl, hx⟩ := h
      refine ⟨rfl, ?_⟩
      simp only [evAll0, evAll1, evAll2, evAll3, evAll4, evAll5, evAll6, Bool.not_true, Bool.not_false, decide_true, decide_false, mk_ft, Option.map_some, List.cons_append, List.nil_append, env0, List.map_cons, List.map_nil, List.length_cons, List.length_nil, List.reduceReplicate, Nat.reduceAdd, Nat.reduceSub, Nat.zero_add, List.append_nil, Nat.reduceLeDiff, Int.reduceEq, Int.reduceLT, Int.reduceLE, Int.reduceGT, Int.reduceGE, Int.reduceNe, i_tup]
  obtain ⟨d, s, e, rfl⟩ := h.ex
  exact ⟨12, 2 ^ 63, s, by decide, e⟩
end Q.K38
end

section
set_option Elab.async false
set_option linter.all false
set_option maxRecDepth 100000
set_option maxHeartbeats 4000000
namespace Q
open PySem PySem.Spec PyProof.Rows L2
theorem exm_pair {K : PySem.W.Frag} {cls : Value} {S : Addr} {b : Bool} (h1 : PySem.W.subIn K (.ref S) (.type "BaseException") = some true) (h2 : PySem.W.isClsIn K S = true) (h3 : PySem.W.typeIn K (.ref S) = some (.type "type")) (h4 : PySem.W.subIn K cls (.ref S) = some b) : PySem.W.exmOne K cls (.ref S) = some b := by
  have a1 : (PySem.W.subIn K (.ref S) (.type "BaseException") == some true) = true := by rw [h1]; rfl
  have a2 : ((PySem.W.clsIn K S).isSome && PySem.W.typeIn K (.ref S) == some (.type "type")) = true := by
    have h2' : (PySem.W.clsIn K S).isSome = true := h2
    rw [h2', h3]; rfl
  unfold PySem.W.exmOne
  rw [if_pos a1]
  unfold PySem.W.kitCls
  show (if ((PySem.W.clsIn K S).isSome && PySem.W.typeIn K (.ref S) == some (.type "type")) = true then PySem.W.subIn K cls (.ref S) else none) = some b
  rw [if_pos a2]
  exact h4
end Q
namespace Q.K38
open PySem PySem.Spec PyProof.Rows L2 Q
def top (i : Nat) : Stmt := PySem.Challenge.pw_quotientcells_k38_exact_quotients_by_int.main.body.getD i (.Pass ⟨0, 0, 0, 0⟩)
theorem ck_f_is_integer : ckSs T.sg (defG f_is_integer (defScope (top 8))) f_is_integer.body (defBody (top 8)) = true := by decide +kernel
theorem ck_f_is_natural : ckSs T.sg (defG f_is_natural (defScope (top 9))) f_is_natural.body (defBody (top 9)) = true := by decide +kernel
theorem ck_f_is_pair : ckSs T.sg (defG f_is_pair (defScope (top 10))) f_is_pair.body (defBody (top 10)) = true := by decide +kernel
theorem ck_f_is_triple : ckSs T.sg (defG f_is_triple (defScope (top 11))) f_is_triple.body (defBody (top 11)) = true := by decide +kernel
theorem ck_f_is_fraction : ckSs T.sg (defG f_is_fraction (defScope (top 12))) f_is_fraction.body (defBody (top 12)) = true := by decide +kernel
theorem ck_f_is_scheme : ckSs T.sg (defG f_is_scheme (defScope (top 14))) f_is_scheme.body (defBody (top 14)) = true := by decide +kernel
theorem ck_f_need_scheme : ckSs T.sg (defG f_need_scheme (defScope (top 15))) f_need_scheme.body (defBody (top 15)) = true := by decide +kernel
theorem ck_f_radix : ckSs T.sg (defG f_radix (defScope (top 16))) f_radix.body (defBody (top 16)) = true := by decide +kernel
theorem ck_f_is_kind : ckSs T.sg (defG f_is_kind (defScope (top 18))) f_is_kind.body (defBody (top 18)) = true := by decide +kernel
theorem ck_f_need_kind : ckSs T.sg (defG f_need_kind (defScope (top 19))) f_need_kind.body (defBody (top 19)) = true := by decide +kernel
theorem ck_f_is_operands : ckSs T.sg (defG f_is_operands (defScope (top 20))) f_is_operands.body (defBody (top 20)) = true := by decide +kernel
theorem ck_f_is_within : ckSs T.sg (defG f_is_within (defScope (top 21))) f_is_within.body (defBody (top 21)) = true := by decide +kernel
theorem ck_f_whole : ckSs T.sg (defG f_whole (defScope (top 22))) f_whole.body (defBody (top 22)) = true := by decide +kernel
theorem ck_f_is_remainder : ckSs T.sg (defG f_is_remainder (defScope (top 23))) f_is_remainder.body (defBody (top 23)) = true := by decide +kernel
theorem ck_f_is_divisor : ckSs T.sg (defG f_is_divisor (defScope (top 24))) f_is_divisor.body (defBody (top 24)) = true := by decide +kernel
theorem ck_f_need_start : ckSs T.sg (defG f_need_start (defScope (top 26))) f_need_start.body (defBody (top 26)) = true := by decide +kernel
theorem ck_f_need_mode : ckSs T.sg (defG f_need_mode (defScope (top 29))) f_need_mode.body (defBody (top 29)) = true := by decide +kernel
theorem ck_f_exact : ckSs T.sg (defG f_exact (defScope (top 30))) f_exact.body (defBody (top 30)) = true := by decide +kernel
theorem ck_f_rounded : ckSs T.sg (defG f_rounded (defScope (top 31))) f_rounded.body (defBody (top 31)) = true := by decide +kernel
theorem ck_f_nearest : ckSs T.sg (defG f_nearest (defScope (top 32))) f_nearest.body (defBody (top 32)) = true := by decide +kernel
theorem ck_f_chosen : ckSs T.sg (defG f_chosen (defScope (top 33))) f_chosen.body (defBody (top 33)) = true := by decide +kernel
theorem ck_lf_deck_40 : ckSs T.sg (defG lf_deck_40 (defScope (top 35))) lf_deck_40.body (defBody (top 35)) = true := by decide +kernel
theorem ck_lf_draw_40 : ckSs T.sg (defG lf_draw_40 (defScope (top 36))) lf_draw_40.body (defBody (top 36)) = true := by decide +kernel
theorem ck_lf_pick_0 : ckSs T.sg (defG lf_pick_0 (defScope (top 37))) lf_pick_0.body (defBody (top 37)) = true := by decide +kernel
theorem ck_lf_reached_1 : ckSs T.sg (defG lf_reached_1 (defScope (top 38))) lf_reached_1.body (defBody (top 38)) = true := by decide +kernel
theorem ck_lf_scheme_2 : ckSs T.sg (defG lf_scheme_2 (defScope (top 39))) lf_scheme_2.body (defBody (top 39)) = true := by decide +kernel
theorem ck_lf_far_0 : ckSs T.sg (defG lf_far_0 (defScope (top 40))) lf_far_0.body (defBody (top 40)) = true := by decide +kernel
theorem ck_lf_operands_2 : ckSs T.sg (defG lf_operands_2 (defScope (top 41))) lf_operands_2.body (defBody (top 41)) = true := by decide +kernel
theorem ck_lf_rounded_0 : ckSs T.sg (defG lf_rounded_0 (defScope (top 42))) lf_rounded_0.body (defBody (top 42)) = true := by decide +kernel
theorem ck_lf_common_1 : ckSs T.sg (defG lf_common_1 (defScope (top 43))) lf_common_1.body (defBody (top 43)) = true := by decide +kernel
theorem ck_lf_is_told_3 : ckSs T.sg (defG lf_is_told_3 (defScope (top 44))) lf_is_told_3.body (defBody (top 44)) = true := by decide +kernel
theorem ck_f_law : ckSs T.sg (defG f_law (defScope (top 45))) f_law.body (defBody (top 45)) = true := by decide +kernel
theorem sc_f_is_integer : FnScope f_is_integer.N f_is_integer.ps (defScope (top 8)) := ⟨rfl, rfl, rfl, by decide +kernel, rfl, by decide +kernel, by decide +kernel⟩
theorem sc_f_is_natural : FnScope f_is_natural.N f_is_natural.ps (defScope (top 9)) := ⟨rfl, rfl, rfl, by decide +kernel, rfl, by decide +kernel, by decide +kernel⟩
theorem sc_f_is_pair : FnScope f_is_pair.N f_is_pair.ps (defScope (top 10)) := ⟨rfl, rfl, rfl, by decide +kernel, rfl, by decide +kernel, by decide +kernel⟩
theorem sc_f_is_triple : FnScope f_is_triple.N f_is_triple.ps (defScope (top 11)) := ⟨rfl, rfl, rfl, by decide +kernel, rfl, by decide +kernel, by decide +kernel⟩
theorem sc_f_is_fraction : FnScope f_is_fraction.N f_is_fraction.ps (defScope (top 12)) := ⟨rfl, rfl, rfl, by decide +kernel, rfl, by decide +kernel, by decide +kernel⟩
theorem sc_f_is_scheme : FnScope f_is_scheme.N f_is_scheme.ps (defScope (top 14)) := ⟨rfl, rfl, rfl, by decide +kernel, rfl, by decide +kernel, by decide +kernel⟩
theorem sc_f_need_scheme : FnScope f_need_scheme.N f_need_scheme.ps (defScope (top 15)) := ⟨rfl, rfl, rfl, by decide +kernel, rfl, by decide +kernel, by decide +kernel⟩
theorem sc_f_radix : FnScope f_radix.N f_radix.ps (defScope (top 16)) := ⟨rfl, rfl, rfl, by decide +kernel, rfl, by decide +kernel, by decide +kernel⟩
theorem sc_f_is_kind : FnScope f_is_kind.N f_is_kind.ps (defScope (top 18)) := ⟨rfl, rfl, rfl, by decide +kernel, rfl, by decide +kernel, by decide +kernel⟩
theorem sc_f_need_kind : FnScope f_need_kind.N f_need_kind.ps (defScope (top 19)) := ⟨rfl, rfl, rfl, by decide +kernel, rfl, by decide +kernel, by decide +kernel⟩
theorem sc_f_is_operands : FnScope f_is_operands.N f_is_operands.ps (defScope (top 20)) := ⟨rfl, rfl, rfl, by decide +kernel, rfl, by decide +kernel, by decide +kernel⟩
theorem sc_f_is_within : FnScope f_is_within.N f_is_within.ps (defScope (top 21)) := ⟨rfl, rfl, rfl, by decide +kernel, rfl, by decide +kernel, by decide +kernel⟩
theorem sc_f_whole : FnScope f_whole.N f_whole.ps (defScope (top 22)) := ⟨rfl, rfl, rfl, by decide +kernel, rfl, by decide +kernel, by decide +kernel⟩
theorem sc_f_is_remainder : FnScope f_is_remainder.N f_is_remainder.ps (defScope (top 23)) := ⟨rfl, rfl, rfl, by decide +kernel, rfl, by decide +kernel, by decide +kernel⟩
theorem sc_f_is_divisor : FnScope f_is_divisor.N f_is_divisor.ps (defScope (top 24)) := ⟨rfl, rfl, rfl, by decide +kernel, rfl, by decide +kernel, by decide +kernel⟩
theorem sc_f_need_start : FnScope f_need_start.N f_need_start.ps (defScope (top 26)) := ⟨rfl, rfl, rfl, by decide +kernel, rfl, by decide +kernel, by decide +kernel⟩
theorem sc_f_need_mode : FnScope f_need_mode.N f_need_mode.ps (defScope (top 29)) := ⟨rfl, rfl, rfl, by decide +kernel, rfl, by decide +kernel, by decide +kernel⟩
theorem sc_f_exact : FnScope f_exact.N f_exact.ps (defScope (top 30)) := ⟨rfl, rfl, rfl, by decide +kernel, rfl, by decide +kernel, by decide +kernel⟩
theorem sc_f_rounded : FnScope f_rounded.N f_rounded.ps (defScope (top 31)) := ⟨rfl, rfl, rfl, by decide +kernel, rfl, by decide +kernel, by decide +kernel⟩
theorem sc_f_nearest : FnScope f_nearest.N f_nearest.ps (defScope (top 32)) := ⟨rfl, rfl, rfl, by decide +kernel, rfl, by decide +kernel, by decide +kernel⟩
theorem sc_f_chosen : FnScope f_chosen.N f_chosen.ps (defScope (top 33)) := ⟨rfl, rfl, rfl, by decide +kernel, rfl, by decide +kernel, by decide +kernel⟩
theorem sc_lf_deck_40 : FnScope lf_deck_40.N lf_deck_40.ps (defScope (top 35)) := ⟨rfl, rfl, rfl, by decide +kernel, rfl, by decide +kernel, by decide +kernel⟩
theorem sc_lf_draw_40 : FnScope lf_draw_40.N lf_draw_40.ps (defScope (top 36)) := ⟨rfl, rfl, rfl, by decide +kernel, rfl, by decide +kernel, by decide +kernel⟩
theorem sc_lf_pick_0 : FnScope lf_pick_0.N lf_pick_0.ps (defScope (top 37)) := ⟨rfl, rfl, rfl, by decide +kernel, rfl, by decide +kernel, by decide +kernel⟩
theorem sc_lf_reached_1 : FnScope lf_reached_1.N lf_reached_1.ps (defScope (top 38)) := ⟨rfl, rfl, rfl, by decide +kernel, rfl, by decide +kernel, by decide +kernel⟩
theorem sc_lf_scheme_2 : FnScope lf_scheme_2.N lf_scheme_2.ps (defScope (top 39)) := ⟨rfl, rfl, rfl, by decide +kernel, rfl, by decide +kernel, by decide +kernel⟩
theorem sc_lf_far_0 : FnScope lf_far_0.N lf_far_0.ps (defScope (top 40)) := ⟨rfl, rfl, rfl, by decide +kernel, rfl, by decide +kernel, by decide +kernel⟩
theorem sc_lf_operands_2 : FnScope lf_operands_2.N lf_operands_2.ps (defScope (top 41)) := ⟨rfl, rfl, rfl, by decide +kernel, rfl, by decide +kernel, by decide +kernel⟩
theorem sc_lf_rounded_0 : FnScope lf_rounded_0.N lf_rounded_0.ps (defScope (top 42)) := ⟨rfl, rfl, rfl, by decide +kernel, rfl, by decide +kernel, by decide +kernel⟩
theorem sc_lf_common_1 : FnScope lf_common_1.N lf_common_1.ps (defScope (top 43)) := ⟨rfl, rfl, rfl, by decide +kernel, rfl, by decide +kernel, by decide +kernel⟩
theorem sc_lf_is_told_3 : FnScope lf_is_told_3.N lf_is_told_3.ps (defScope (top 44)) := ⟨rfl, rfl, rfl, by decide +kernel, rfl, by decide +kernel, by decide +kernel⟩
theorem sc_f_law : FnScope f_law.N f_law.ps (defScope (top 45)) := ⟨rfl, rfl, rfl, by decide +kernel, rfl, by decide +kernel, by decide +kernel⟩
theorem all_mk {l : PySem.W.OpenLaw} {w : World} {K : PySem.W.Frag} {h : Heap} {mg : Str → Option Value} {fa : Addr} (X : K.In h) (G : h.Ns mainGlobals mg) (hfa : mg "law" = some (.ref fa)) (hts : ∀ nm ∈ ([] : List Str), ∀ f2 : Addr, mg nm = some (.ref f2) → OwnTb K f2 h) (pu : Pure T 199 63)
    {fa0 fa1 fa2 fa3 fa4 fa5 fa6 fa7 fa8 fa9 fa10 fa11 fa12 fa13 fa14 fa15 fa16 fa17 fa18 fa19 fa20 fa21 fa22 fa23 fa24 fa25 fa26 fa27 fa28 fa29 fa30 fa31 C0 g0 C1 g1 C2 g2 C3 g3 Gm0 : Addr}
    {od0 an0 : Option Addr} {sl0 : Array (Option Value)} {oc0 kV0 dc0 pm0 cd0 ct0 : Value}
    {od1 an1 : Option Addr} {sl1 : Array (Option Value)} {oc1 kV1 dc1 pm1 cd1 ct1 : Value}
    {od2 an2 : Option Addr} {sl2 : Array (Option Value)} {oc2 kV2 dc2 pm2 cd2 ct2 : Value}
    {od3 an3 : Option Addr} {sl3 : Array (Option Value)} {oc3 kV3 dc3 pm3 cd3 ct3 : Value}
    {od4 an4 : Option Addr} {sl4 : Array (Option Value)} {oc4 kV4 dc4 pm4 cd4 ct4 : Value}
    {od5 an5 : Option Addr} {sl5 : Array (Option Value)} {oc5 kV5 dc5 pm5 cd5 ct5 : Value}
    {od6 an6 : Option Addr} {sl6 : Array (Option Value)} {oc6 kV6 dc6 pm6 cd6 ct6 : Value}
    {od7 an7 : Option Addr} {sl7 : Array (Option Value)} {oc7 kV7 dc7 pm7 cd7 ct7 : Value}
    {od8 an8 : Option Addr} {sl8 : Array (Option Value)} {oc8 kV8 dc8 pm8 cd8 ct8 : Value}
    {od9 an9 : Option Addr} {sl9 : Array (Option Value)} {oc9 kV9 dc9 pm9 cd9 ct9 : Value}
    {od10 an10 : Option Addr} {sl10 : Array (Option Value)} {oc10 kV10 dc10 pm10 cd10 ct10 : Value}
    {od11 an11 : Option Addr} {sl11 : Array (Option Value)} {oc11 kV11 dc11 pm11 cd11 ct11 : Value}
    {od12 an12 : Option Addr} {sl12 : Array (Option Value)} {oc12 kV12 dc12 pm12 cd12 ct12 : Value}
    {od13 an13 : Option Addr} {sl13 : Array (Option Value)} {oc13 kV13 dc13 pm13 cd13 ct13 : Value}
    {od14 an14 : Option Addr} {sl14 : Array (Option Value)} {oc14 kV14 dc14 pm14 cd14 ct14 : Value}
    {od15 an15 : Option Addr} {sl15 : Array (Option Value)} {oc15 kV15 dc15 pm15 cd15 ct15 : Value}
    {od16 an16 : Option Addr} {sl16 : Array (Option Value)} {oc16 kV16 dc16 pm16 cd16 ct16 : Value}
    {od17 an17 : Option Addr} {sl17 : Array (Option Value)} {oc17 kV17 dc17 pm17 cd17 ct17 : Value}
    {od18 an18 : Option Addr} {sl18 : Array (Option Value)} {oc18 kV18 dc18 pm18 cd18 ct18 : Value}
    {od19 an19 : Option Addr} {sl19 : Array (Option Value)} {oc19 kV19 dc19 pm19 cd19 ct19 : Value}
    {od20 an20 : Option Addr} {sl20 : Array (Option Value)} {oc20 kV20 dc20 pm20 cd20 ct20 : Value}
    {od21 an21 : Option Addr} {sl21 : Array (Option Value)} {oc21 kV21 dc21 pm21 cd21 ct21 : Value}
    {od22 an22 : Option Addr} {sl22 : Array (Option Value)} {oc22 kV22 dc22 pm22 cd22 ct22 : Value}
    {od23 an23 : Option Addr} {sl23 : Array (Option Value)} {oc23 kV23 dc23 pm23 cd23 ct23 : Value}
    {od24 an24 : Option Addr} {sl24 : Array (Option Value)} {oc24 kV24 dc24 pm24 cd24 ct24 : Value}
    {od25 an25 : Option Addr} {sl25 : Array (Option Value)} {oc25 kV25 dc25 pm25 cd25 ct25 : Value}
    {od26 an26 : Option Addr} {sl26 : Array (Option Value)} {oc26 kV26 dc26 pm26 cd26 ct26 : Value}
    {od27 an27 : Option Addr} {sl27 : Array (Option Value)} {oc27 kV27 dc27 pm27 cd27 ct27 : Value}
    {od28 an28 : Option Addr} {sl28 : Array (Option Value)} {oc28 kV28 dc28 pm28 cd28 ct28 : Value}
    {od29 an29 : Option Addr} {sl29 : Array (Option Value)} {oc29 kV29 dc29 pm29 cd29 ct29 : Value}
    {od30 an30 : Option Addr} {sl30 : Array (Option Value)} {oc30 kV30 dc30 pm30 cd30 ct30 : Value}
    {od31 an31 : Option Addr} {sl31 : Array (Option Value)} {oc31 kV31 dc31 pm31 cd31 ct31 : Value}
    {nm0 q0 : Str} {Na0 : Addr} {bs0 bm0 : List Value} {sn0 : List Str} {su0 : List Value} {ab0 : Bool} {co0 : Option Bool} {dd0 : Option Addr} {m00 m10 m20 m30 m50 : Option Value} {ocC0 kVC0 dcC0 pmC0 cdC0 ctC0 : Value} {odC0 anC0 : Option Addr} {slC0 : Array (Option Value)}
    {nm1 q1 : Str} {Na1 : Addr} {bs1 bm1 : List Value} {sn1 : List Str} {su1 : List Value} {ab1 : Bool} {co1 : Option Bool} {dd1 : Option Addr} {m01 m11 m21 m31 m51 : Option Value} {ocC1 kVC1 dcC1 pmC1 cdC1 ctC1 : Value} {odC1 anC1 : Option Addr} {slC1 : Array (Option Value)}
    {nm2 q2 : Str} {Na2 : Addr} {bs2 bm2 : List Value} {sn2 : List Str} {su2 : List Value} {ab2 : Bool} {co2 : Option Bool} {dd2 : Option Addr} {m02 m12 m22 m32 m52 : Option Value} {ocC2 kVC2 dcC2 pmC2 cdC2 ctC2 : Value} {odC2 anC2 : Option Addr} {slC2 : Array (Option Value)}
    {nm3 q3 : Str} {Na3 : Addr} {bs3 bm3 : List Value} {sn3 : List Str} {su3 : List Value} {ab3 : Bool} {co3 : Option Bool} {dd3 : Option Addr} {m03 m13 m23 m33 m53 : Option Value} {ocC3 kVC3 dcC3 pmC3 cdC3 ctC3 : Value} {odC3 anC3 : Option Addr} {slC3 : Array (Option Value)}
    {gt0_0 gt0_1 gt0_2 gt0_3 : Tok} {gd0 : Option Addr} {gn0 : Nat} {gsl0 : Array (Option Value)}
    (a0 : PySem.W.nsIn K mainGlobals "is_integer" = some (some (.ref fa0)))
    (l0 : K.lookup fa0 = some ⟨oc0, od0, .func (PySem.W.fnOf "is_integer" "is_integer" (defArgs (top 8)) (defBody (top 8)) (defScope (top 8)) .none kV0 dc0 pm0 an0 cd0 ct0), sl0⟩)
    (c0 : PySem.W.codeIn K cd0 "is_integer" = true)
    (k0 : PySem.W.keepIn K (.ref fa0) = true)
    (a1 : PySem.W.nsIn K mainGlobals "is_natural" = some (some (.ref fa1)))
    (l1 : K.lookup fa1 = some ⟨oc1, od1, .func (PySem.W.fnOf "is_natural" "is_natural" (defArgs (top 9)) (defBody (top 9)) (defScope (top 9)) .none kV1 dc1 pm1 an1 cd1 ct1), sl1⟩)
    (c1 : PySem.W.codeIn K cd1 "is_natural" = true)
    (k1 : PySem.W.keepIn K (.ref fa1) = true)
    (a2 : PySem.W.nsIn K mainGlobals "is_pair" = some (some (.ref fa2)))
    (l2 : K.lookup fa2 = some ⟨oc2, od2, .func (PySem.W.fnOf "is_pair" "is_pair" (defArgs (top 10)) (defBody (top 10)) (defScope (top 10)) .none kV2 dc2 pm2 an2 cd2 ct2), sl2⟩)
    (c2 : PySem.W.codeIn K cd2 "is_pair" = true)
    (k2 : PySem.W.keepIn K (.ref fa2) = true)
    (a3 : PySem.W.nsIn K mainGlobals "is_triple" = some (some (.ref fa3)))
    (l3 : K.lookup fa3 = some ⟨oc3, od3, .func (PySem.W.fnOf "is_triple" "is_triple" (defArgs (top 11)) (defBody (top 11)) (defScope (top 11)) .none kV3 dc3 pm3 an3 cd3 ct3), sl3⟩)
    (c3 : PySem.W.codeIn K cd3 "is_triple" = true)
    (k3 : PySem.W.keepIn K (.ref fa3) = true)
    (a4 : PySem.W.nsIn K mainGlobals "is_fraction" = some (some (.ref fa4)))
    (l4 : K.lookup fa4 = some ⟨oc4, od4, .func (PySem.W.fnOf "is_fraction" "is_fraction" (defArgs (top 12)) (defBody (top 12)) (defScope (top 12)) .none kV4 dc4 pm4 an4 cd4 ct4), sl4⟩)
    (c4 : PySem.W.codeIn K cd4 "is_fraction" = true)
    (k4 : PySem.W.keepIn K (.ref fa4) = true)
    (a5 : PySem.W.nsIn K mainGlobals "is_scheme" = some (some (.ref fa5)))
    (l5 : K.lookup fa5 = some ⟨oc5, od5, .func (PySem.W.fnOf "is_scheme" "is_scheme" (defArgs (top 14)) (defBody (top 14)) (defScope (top 14)) .none kV5 dc5 pm5 an5 cd5 ct5), sl5⟩)
    (c5 : PySem.W.codeIn K cd5 "is_scheme" = true)
    (k5 : PySem.W.keepIn K (.ref fa5) = true)
    (a6 : PySem.W.nsIn K mainGlobals "need_scheme" = some (some (.ref fa6)))
    (l6 : K.lookup fa6 = some ⟨oc6, od6, .func (PySem.W.fnOf "need_scheme" "need_scheme" (defArgs (top 15)) (defBody (top 15)) (defScope (top 15)) .none kV6 dc6 pm6 an6 cd6 ct6), sl6⟩)
    (c6 : PySem.W.codeIn K cd6 "need_scheme" = true)
    (k6 : PySem.W.keepIn K (.ref fa6) = true)
    (a7 : PySem.W.nsIn K mainGlobals "radix" = some (some (.ref fa7)))
    (l7 : K.lookup fa7 = some ⟨oc7, od7, .func (PySem.W.fnOf "radix" "radix" (defArgs (top 16)) (defBody (top 16)) (defScope (top 16)) .none kV7 dc7 pm7 an7 cd7 ct7), sl7⟩)
    (c7 : PySem.W.codeIn K cd7 "radix" = true)
    (k7 : PySem.W.keepIn K (.ref fa7) = true)
    (a8 : PySem.W.nsIn K mainGlobals "is_kind" = some (some (.ref fa8)))
    (l8 : K.lookup fa8 = some ⟨oc8, od8, .func (PySem.W.fnOf "is_kind" "is_kind" (defArgs (top 18)) (defBody (top 18)) (defScope (top 18)) .none kV8 dc8 pm8 an8 cd8 ct8), sl8⟩)
    (c8 : PySem.W.codeIn K cd8 "is_kind" = true)
    (k8 : PySem.W.keepIn K (.ref fa8) = true)
    (a9 : PySem.W.nsIn K mainGlobals "need_kind" = some (some (.ref fa9)))
    (l9 : K.lookup fa9 = some ⟨oc9, od9, .func (PySem.W.fnOf "need_kind" "need_kind" (defArgs (top 19)) (defBody (top 19)) (defScope (top 19)) .none kV9 dc9 pm9 an9 cd9 ct9), sl9⟩)
    (c9 : PySem.W.codeIn K cd9 "need_kind" = true)
    (k9 : PySem.W.keepIn K (.ref fa9) = true)
    (a10 : PySem.W.nsIn K mainGlobals "is_operands" = some (some (.ref fa10)))
    (l10 : K.lookup fa10 = some ⟨oc10, od10, .func (PySem.W.fnOf "is_operands" "is_operands" (defArgs (top 20)) (defBody (top 20)) (defScope (top 20)) .none kV10 dc10 pm10 an10 cd10 ct10), sl10⟩)
    (c10 : PySem.W.codeIn K cd10 "is_operands" = true)
    (k10 : PySem.W.keepIn K (.ref fa10) = true)
    (a11 : PySem.W.nsIn K mainGlobals "is_within" = some (some (.ref fa11)))
    (l11 : K.lookup fa11 = some ⟨oc11, od11, .func (PySem.W.fnOf "is_within" "is_within" (defArgs (top 21)) (defBody (top 21)) (defScope (top 21)) .none kV11 dc11 pm11 an11 cd11 ct11), sl11⟩)
    (c11 : PySem.W.codeIn K cd11 "is_within" = true)
    (k11 : PySem.W.keepIn K (.ref fa11) = true)
    (a12 : PySem.W.nsIn K mainGlobals "whole" = some (some (.ref fa12)))
    (l12 : K.lookup fa12 = some ⟨oc12, od12, .func (PySem.W.fnOf "whole" "whole" (defArgs (top 22)) (defBody (top 22)) (defScope (top 22)) .none kV12 dc12 pm12 an12 cd12 ct12), sl12⟩)
    (c12 : PySem.W.codeIn K cd12 "whole" = true)
    (k12 : PySem.W.keepIn K (.ref fa12) = true)
    (a13 : PySem.W.nsIn K mainGlobals "_is_remainder" = some (some (.ref fa13)))
    (l13 : K.lookup fa13 = some ⟨oc13, od13, .func (PySem.W.fnOf "_is_remainder" "_is_remainder" (defArgs (top 23)) (defBody (top 23)) (defScope (top 23)) .none kV13 dc13 pm13 an13 cd13 ct13), sl13⟩)
    (c13 : PySem.W.codeIn K cd13 "_is_remainder" = true)
    (k13 : PySem.W.keepIn K (.ref fa13) = true)
    (a14 : PySem.W.nsIn K mainGlobals "_is_divisor" = some (some (.ref fa14)))
    (l14 : K.lookup fa14 = some ⟨oc14, od14, .func (PySem.W.fnOf "_is_divisor" "_is_divisor" (defArgs (top 24)) (defBody (top 24)) (defScope (top 24)) .none kV14 dc14 pm14 an14 cd14 ct14), sl14⟩)
    (c14 : PySem.W.codeIn K cd14 "_is_divisor" = true)
    (k14 : PySem.W.keepIn K (.ref fa14) = true)
    (a15 : PySem.W.nsIn K mainGlobals "need_start" = some (some (.ref fa15)))
    (l15 : K.lookup fa15 = some ⟨oc15, od15, .func (PySem.W.fnOf "need_start" "need_start" (defArgs (top 26)) (defBody (top 26)) (defScope (top 26)) .none kV15 dc15 pm15 an15 cd15 ct15), sl15⟩)
    (c15 : PySem.W.codeIn K cd15 "need_start" = true)
    (k15 : PySem.W.keepIn K (.ref fa15) = true)
    (a16 : PySem.W.nsIn K mainGlobals "need_mode" = some (some (.ref fa16)))
    (l16 : K.lookup fa16 = some ⟨oc16, od16, .func (PySem.W.fnOf "need_mode" "need_mode" (defArgs (top 29)) (defBody (top 29)) (defScope (top 29)) .none kV16 dc16 pm16 an16 cd16 ct16), sl16⟩)
    (c16 : PySem.W.codeIn K cd16 "need_mode" = true)
    (k16 : PySem.W.keepIn K (.ref fa16) = true)
    (a17 : PySem.W.nsIn K mainGlobals "exact" = some (some (.ref fa17)))
    (l17 : K.lookup fa17 = some ⟨oc17, od17, .func (PySem.W.fnOf "exact" "exact" (defArgs (top 30)) (defBody (top 30)) (defScope (top 30)) .none kV17 dc17 pm17 an17 cd17 ct17), sl17⟩)
    (c17 : PySem.W.codeIn K cd17 "exact" = true)
    (k17 : PySem.W.keepIn K (.ref fa17) = true)
    (a18 : PySem.W.nsIn K mainGlobals "rounded" = some (some (.ref fa18)))
    (l18 : K.lookup fa18 = some ⟨oc18, od18, .func (PySem.W.fnOf "rounded" "rounded" (defArgs (top 31)) (defBody (top 31)) (defScope (top 31)) .none kV18 dc18 pm18 an18 cd18 ct18), sl18⟩)
    (c18 : PySem.W.codeIn K cd18 "rounded" = true)
    (k18 : PySem.W.keepIn K (.ref fa18) = true)
    (a19 : PySem.W.nsIn K mainGlobals "nearest" = some (some (.ref fa19)))
    (l19 : K.lookup fa19 = some ⟨oc19, od19, .func (PySem.W.fnOf "nearest" "nearest" (defArgs (top 32)) (defBody (top 32)) (defScope (top 32)) .none kV19 dc19 pm19 an19 cd19 ct19), sl19⟩)
    (c19 : PySem.W.codeIn K cd19 "nearest" = true)
    (k19 : PySem.W.keepIn K (.ref fa19) = true)
    (a20 : PySem.W.nsIn K mainGlobals "_chosen" = some (some (.ref fa20)))
    (l20 : K.lookup fa20 = some ⟨oc20, od20, .func (PySem.W.fnOf "_chosen" "_chosen" (defArgs (top 33)) (defBody (top 33)) (defScope (top 33)) .none kV20 dc20 pm20 an20 cd20 ct20), sl20⟩)
    (c20 : PySem.W.codeIn K cd20 "_chosen" = true)
    (k20 : PySem.W.keepIn K (.ref fa20) = true)
    (a21 : PySem.W.nsIn K mainGlobals "_law_deck" = some (some (.ref fa21)))
    (l21 : K.lookup fa21 = some ⟨oc21, od21, .func (PySem.W.fnOf "_law_deck" "_law_deck" (defArgs (top 35)) (defBody (top 35)) (defScope (top 35)) .none kV21 dc21 pm21 an21 cd21 ct21), sl21⟩)
    (c21 : PySem.W.codeIn K cd21 "_law_deck" = true)
    (k21 : PySem.W.keepIn K (.ref fa21) = true)
    (a22 : PySem.W.nsIn K mainGlobals "_law_draw" = some (some (.ref fa22)))
    (l22 : K.lookup fa22 = some ⟨oc22, od22, .func (PySem.W.fnOf "_law_draw" "_law_draw" (defArgs (top 36)) (defBody (top 36)) (defScope (top 36)) .none kV22 dc22 pm22 an22 cd22 ct22), sl22⟩)
    (c22 : PySem.W.codeIn K cd22 "_law_draw" = true)
    (k22 : PySem.W.keepIn K (.ref fa22) = true)
    (a23 : PySem.W.nsIn K mainGlobals "_law_pick" = some (some (.ref fa23)))
    (l23 : K.lookup fa23 = some ⟨oc23, od23, .func (PySem.W.fnOf "_law_pick" "_law_pick" (defArgs (top 37)) (defBody (top 37)) (defScope (top 37)) .none kV23 dc23 pm23 an23 cd23 ct23), sl23⟩)
    (c23 : PySem.W.codeIn K cd23 "_law_pick" = true)
    (k23 : PySem.W.keepIn K (.ref fa23) = true)
    (a24 : PySem.W.nsIn K mainGlobals "_law_reached" = some (some (.ref fa24)))
    (l24 : K.lookup fa24 = some ⟨oc24, od24, .func (PySem.W.fnOf "_law_reached" "_law_reached" (defArgs (top 38)) (defBody (top 38)) (defScope (top 38)) .none kV24 dc24 pm24 an24 cd24 ct24), sl24⟩)
    (c24 : PySem.W.codeIn K cd24 "_law_reached" = true)
    (k24 : PySem.W.keepIn K (.ref fa24) = true)
    (a25 : PySem.W.nsIn K mainGlobals "_law_scheme" = some (some (.ref fa25)))
    (l25 : K.lookup fa25 = some ⟨oc25, od25, .func (PySem.W.fnOf "_law_scheme" "_law_scheme" (defArgs (top 39)) (defBody (top 39)) (defScope (top 39)) .none kV25 dc25 pm25 an25 cd25 ct25), sl25⟩)
    (c25 : PySem.W.codeIn K cd25 "_law_scheme" = true)
    (k25 : PySem.W.keepIn K (.ref fa25) = true)
    (a26 : PySem.W.nsIn K mainGlobals "_law_far" = some (some (.ref fa26)))
    (l26 : K.lookup fa26 = some ⟨oc26, od26, .func (PySem.W.fnOf "_law_far" "_law_far" (defArgs (top 40)) (defBody (top 40)) (defScope (top 40)) .none kV26 dc26 pm26 an26 cd26 ct26), sl26⟩)
    (c26 : PySem.W.codeIn K cd26 "_law_far" = true)
    (k26 : PySem.W.keepIn K (.ref fa26) = true)
    (a27 : PySem.W.nsIn K mainGlobals "_law_operands" = some (some (.ref fa27)))
    (l27 : K.lookup fa27 = some ⟨oc27, od27, .func (PySem.W.fnOf "_law_operands" "_law_operands" (defArgs (top 41)) (defBody (top 41)) (defScope (top 41)) .none kV27 dc27 pm27 an27 cd27 ct27), sl27⟩)
    (c27 : PySem.W.codeIn K cd27 "_law_operands" = true)
    (k27 : PySem.W.keepIn K (.ref fa27) = true)
    (a28 : PySem.W.nsIn K mainGlobals "_law_rounded" = some (some (.ref fa28)))
    (l28 : K.lookup fa28 = some ⟨oc28, od28, .func (PySem.W.fnOf "_law_rounded" "_law_rounded" (defArgs (top 42)) (defBody (top 42)) (defScope (top 42)) .none kV28 dc28 pm28 an28 cd28 ct28), sl28⟩)
    (c28 : PySem.W.codeIn K cd28 "_law_rounded" = true)
    (k28 : PySem.W.keepIn K (.ref fa28) = true)
    (a29 : PySem.W.nsIn K mainGlobals "_law_common" = some (some (.ref fa29)))
    (l29 : K.lookup fa29 = some ⟨oc29, od29, .func (PySem.W.fnOf "_law_common" "_law_common" (defArgs (top 43)) (defBody (top 43)) (defScope (top 43)) .none kV29 dc29 pm29 an29 cd29 ct29), sl29⟩)
    (c29 : PySem.W.codeIn K cd29 "_law_common" = true)
    (k29 : PySem.W.keepIn K (.ref fa29) = true)
    (a30 : PySem.W.nsIn K mainGlobals "_law_is_told" = some (some (.ref fa30)))
    (l30 : K.lookup fa30 = some ⟨oc30, od30, .func (PySem.W.fnOf "_law_is_told" "_law_is_told" (defArgs (top 44)) (defBody (top 44)) (defScope (top 44)) .none kV30 dc30 pm30 an30 cd30 ct30), sl30⟩)
    (c30 : PySem.W.codeIn K cd30 "_law_is_told" = true)
    (k30 : PySem.W.keepIn K (.ref fa30) = true)
    (a31 : PySem.W.nsIn K mainGlobals "law" = some (some (.ref fa31)))
    (l31 : K.lookup fa31 = some ⟨oc31, od31, .func (PySem.W.fnOf "law" "law" (defArgs (top 45)) (defBody (top 45)) (defScope (top 45)) .none kV31 dc31 pm31 an31 cd31 ct31), sl31⟩)
    (c31 : PySem.W.codeIn K cd31 "law" = true)
    (k31 : PySem.W.keepIn K (.ref fa31) = true)
    (aC0 : PySem.W.nsIn K mainGlobals "BadScheme" = some (some (.ref C0)))
    (xL0 : K.lookup C0 = some (excClassObj nm0 q0 C0 Na0 bs0 bm0 true sn0 su0 ab0 co0 dd0 m00 m10 m20 m30 m50 "Exception.__new__"))
    (bm0h : QX.refsE bm0 = true)
    (sa0 : PySem.W.findIn K (.ref C0) "__setattr__" = some (some (.builtin "object.__setattr__")))
    (ga0 : PySem.W.findIn K (.ref C0) "__getattribute__" = some (some (.builtin "BaseException.__getattribute__")))
    (gg0 : PySem.W.findIn K (.ref C0) "__getattr__" = some none)
    (nb0 : PySem.W.findIn K (.ref C0) "thing" = some none)
    (iC0 : PySem.W.findIn K (.ref C0) "__init__" = some (some (.ref g0)))
    (tI0 : PySem.W.typeIn K (.ref g0) = some (.type "function"))
    (lI0 : K.lookup g0 = some ⟨ocC0, odC0, .func (PySem.W.fnOf "__init__" "BadScheme.__init__" (initA "self" "thing" ⟨7, 17, 7, 21⟩ ⟨7, 23, 7, 28⟩) (initB "self" "thing" "thing" ⟨8, 8, 8, 12⟩ ⟨8, 8, 8, 18⟩ ⟨8, 21, 8, 26⟩ ⟨8, 8, 8, 26⟩) (initS "self" "thing") .none kVC0 dcC0 pmC0 anC0 cdC0 ctC0), slC0⟩)
    (cI0 : PySem.W.codeIn K cdC0 "BadScheme.__init__" = true)
    (kC0 : PySem.W.keepIn K (.ref C0) = true)
    (eC0 : PySem.W.subIn K (.ref C0) (.type "BaseException") = some true)
    (tC0 : PySem.W.typeIn K (.ref C0) = some (.type "type"))
    (hC0 : PySem.W.hasDictIn K C0 = true)
    (oC0 : PySem.W.isClsIn K C0 = true)
    (xc0 : PySem.W.findIn K (.ref C0) "__class__" = some (some (.builtin "object.__class__")))
    (mo0 : PySem.W.mroIn K C0 (.type "object") = some true)
    (gs0 : PySem.W.specialIn K (.builtin "object.__class__") "__get__" = some (some (.builtin "getset_descriptor.__get__")))
    (gs1 : PySem.W.takesIn K (.builtin "object.__class__") = some true)
    (s0_0 : PySem.W.subIn K (.ref C0) (.ref C0) = some true)
    (s0_1 : PySem.W.subIn K (.ref C0) (.ref C1) = some false)
    (s0_2 : PySem.W.subIn K (.ref C0) (.ref C2) = some false)
    (s0_3 : PySem.W.subIn K (.ref C0) (.ref C3) = some false)
    (aC1 : PySem.W.nsIn K mainGlobals "BadOperands" = some (some (.ref C1)))
    (xL1 : K.lookup C1 = some (excClassObj nm1 q1 C1 Na1 bs1 bm1 true sn1 su1 ab1 co1 dd1 m01 m11 m21 m31 m51 "Exception.__new__"))
    (bm1h : QX.refsE bm1 = true)
    (sa1 : PySem.W.findIn K (.ref C1) "__setattr__" = some (some (.builtin "object.__setattr__")))
    (ga1 : PySem.W.findIn K (.ref C1) "__getattribute__" = some (some (.builtin "BaseException.__getattribute__")))
    (gg1 : PySem.W.findIn K (.ref C1) "__getattr__" = some none)
    (nb1 : PySem.W.findIn K (.ref C1) "thing" = some none)
    (iC1 : PySem.W.findIn K (.ref C1) "__init__" = some (some (.ref g1)))
    (tI1 : PySem.W.typeIn K (.ref g1) = some (.type "function"))
    (lI1 : K.lookup g1 = some ⟨ocC1, odC1, .func (PySem.W.fnOf "__init__" "BadOperands.__init__" (initA "self" "thing" ⟨11, 17, 11, 21⟩ ⟨11, 23, 11, 28⟩) (initB "self" "thing" "thing" ⟨12, 8, 12, 12⟩ ⟨12, 8, 12, 18⟩ ⟨12, 21, 12, 26⟩ ⟨12, 8, 12, 26⟩) (initS "self" "thing") .none kVC1 dcC1 pmC1 anC1 cdC1 ctC1), slC1⟩)
    (cI1 : PySem.W.codeIn K cdC1 "BadOperands.__init__" = true)
    (kC1 : PySem.W.keepIn K (.ref C1) = true)
    (eC1 : PySem.W.subIn K (.ref C1) (.type "BaseException") = some true)
    (tC1 : PySem.W.typeIn K (.ref C1) = some (.type "type"))
    (hC1 : PySem.W.hasDictIn K C1 = true)
    (oC1 : PySem.W.isClsIn K C1 = true)
    (xc1 : PySem.W.findIn K (.ref C1) "__class__" = some (some (.builtin "object.__class__")))
    (mo1 : PySem.W.mroIn K C1 (.type "object") = some true)
    (s1_0 : PySem.W.subIn K (.ref C1) (.ref C0) = some false)
    (s1_1 : PySem.W.subIn K (.ref C1) (.ref C1) = some true)
    (s1_2 : PySem.W.subIn K (.ref C1) (.ref C2) = some false)
    (s1_3 : PySem.W.subIn K (.ref C1) (.ref C3) = some false)
    (aC2 : PySem.W.nsIn K mainGlobals "BadNumber" = some (some (.ref C2)))
    (xL2 : K.lookup C2 = some (excClassObj nm2 q2 C2 Na2 bs2 bm2 true sn2 su2 ab2 co2 dd2 m02 m12 m22 m32 m52 "Exception.__new__"))
    (bm2h : QX.refsE bm2 = true)
    (sa2 : PySem.W.findIn K (.ref C2) "__setattr__" = some (some (.builtin "object.__setattr__")))
    (ga2 : PySem.W.findIn K (.ref C2) "__getattribute__" = some (some (.builtin "BaseException.__getattribute__")))
    (gg2 : PySem.W.findIn K (.ref C2) "__getattr__" = some none)
    (nb2 : PySem.W.findIn K (.ref C2) "thing" = some none)
    (iC2 : PySem.W.findIn K (.ref C2) "__init__" = some (some (.ref g2)))
    (tI2 : PySem.W.typeIn K (.ref g2) = some (.type "function"))
    (lI2 : K.lookup g2 = some ⟨ocC2, odC2, .func (PySem.W.fnOf "__init__" "BadNumber.__init__" (initA "self" "thing" ⟨15, 17, 15, 21⟩ ⟨15, 23, 15, 28⟩) (initB "self" "thing" "thing" ⟨16, 8, 16, 12⟩ ⟨16, 8, 16, 18⟩ ⟨16, 21, 16, 26⟩ ⟨16, 8, 16, 26⟩) (initS "self" "thing") .none kVC2 dcC2 pmC2 anC2 cdC2 ctC2), slC2⟩)
    (cI2 : PySem.W.codeIn K cdC2 "BadNumber.__init__" = true)
    (kC2 : PySem.W.keepIn K (.ref C2) = true)
    (eC2 : PySem.W.subIn K (.ref C2) (.type "BaseException") = some true)
    (tC2 : PySem.W.typeIn K (.ref C2) = some (.type "type"))
    (hC2 : PySem.W.hasDictIn K C2 = true)
    (oC2 : PySem.W.isClsIn K C2 = true)
    (xc2 : PySem.W.findIn K (.ref C2) "__class__" = some (some (.builtin "object.__class__")))
    (mo2 : PySem.W.mroIn K C2 (.type "object") = some true)
    (s2_0 : PySem.W.subIn K (.ref C2) (.ref C0) = some false)
    (s2_1 : PySem.W.subIn K (.ref C2) (.ref C1) = some false)
    (s2_2 : PySem.W.subIn K (.ref C2) (.ref C2) = some true)
    (s2_3 : PySem.W.subIn K (.ref C2) (.ref C3) = some false)
    (aC3 : PySem.W.nsIn K mainGlobals "BadMode" = some (some (.ref C3)))
    (xL3 : K.lookup C3 = some (excClassObj nm3 q3 C3 Na3 bs3 bm3 true sn3 su3 ab3 co3 dd3 m03 m13 m23 m33 m53 "Exception.__new__"))
    (bm3h : QX.refsE bm3 = true)
    (sa3 : PySem.W.findIn K (.ref C3) "__setattr__" = some (some (.builtin "object.__setattr__")))
    (ga3 : PySem.W.findIn K (.ref C3) "__getattribute__" = some (some (.builtin "BaseException.__getattribute__")))
    (gg3 : PySem.W.findIn K (.ref C3) "__getattr__" = some none)
    (nb3 : PySem.W.findIn K (.ref C3) "thing" = some none)
    (iC3 : PySem.W.findIn K (.ref C3) "__init__" = some (some (.ref g3)))
    (tI3 : PySem.W.typeIn K (.ref g3) = some (.type "function"))
    (lI3 : K.lookup g3 = some ⟨ocC3, odC3, .func (PySem.W.fnOf "__init__" "BadMode.__init__" (initA "self" "thing" ⟨19, 17, 19, 21⟩ ⟨19, 23, 19, 28⟩) (initB "self" "thing" "thing" ⟨20, 8, 20, 12⟩ ⟨20, 8, 20, 18⟩ ⟨20, 21, 20, 26⟩ ⟨20, 8, 20, 26⟩) (initS "self" "thing") .none kVC3 dcC3 pmC3 anC3 cdC3 ctC3), slC3⟩)
    (cI3 : PySem.W.codeIn K cdC3 "BadMode.__init__" = true)
    (kC3 : PySem.W.keepIn K (.ref C3) = true)
    (eC3 : PySem.W.subIn K (.ref C3) (.type "BaseException") = some true)
    (tC3 : PySem.W.typeIn K (.ref C3) = some (.type "type"))
    (hC3 : PySem.W.hasDictIn K C3 = true)
    (oC3 : PySem.W.isClsIn K C3 = true)
    (xc3 : PySem.W.findIn K (.ref C3) "__class__" = some (some (.builtin "object.__class__")))
    (mo3 : PySem.W.mroIn K C3 (.type "object") = some true)
    (s3_0 : PySem.W.subIn K (.ref C3) (.ref C0) = some false)
    (s3_1 : PySem.W.subIn K (.ref C3) (.ref C1) = some false)
    (s3_2 : PySem.W.subIn K (.ref C3) (.ref C2) = some false)
    (s3_3 : PySem.W.subIn K (.ref C3) (.ref C3) = some true)
    (z0 : PySem.W.nsIn K mainGlobals "abs" = some none)
    (z1 : PySem.W.nsIn K mainGlobals "bool" = some none)
    (z2 : PySem.W.nsIn K mainGlobals "gcd" = some (some (.builtin "math.gcd")))
    (z3 : PySem.W.nsIn K mainGlobals "int" = some none)
    (z4 : PySem.W.nsIn K mainGlobals "isinstance" = some none)
    (z5 : PySem.W.nsIn K mainGlobals "len" = some none)
    (z6 : PySem.W.nsIn K mainGlobals "list" = some none)
    (z7 : PySem.W.nsIn K mainGlobals "max" = some none)
    (z8 : PySem.W.nsIn K mainGlobals "min" = some none)
    (z9 : PySem.W.nsIn K mainGlobals "range" = some none)
    (z10 : PySem.W.nsIn K mainGlobals "repr" = some none)
    (z11 : PySem.W.nsIn K mainGlobals "tuple" = some none)
    (gla0 : PySem.W.nsIn K mainGlobals "MODES" = some (some (.ref Gm0)))
    (glb0 : K.lookup Gm0 = some ⟨.type "tuple", gd0, .seq #[.str "down" gt0_0, .str "up" gt0_1, .str "zero" gt0_2, .str "even" gt0_3] gn0, gsl0⟩)
    : LawQ l w K 63 "script" mg fa h := by
  have mh := hfa.symm.trans (PySem.W.mg_of X G a31)
  cases mh
  refine ⟨PySem.W.fnOf "law" "law" (defArgs (top 45)) (defBody (top 45)) (defScope (top 45)) .none kV31 dc31 pm31 an31 cd31 ct31, ([] : List (Addr × Addr)), ?_, ?_, ?_, fun s v => .of_eq rfl, fun base kb nb tb => lawF_of (T := T) (P0 := (⟨[], fun c => [C0, C1, C2, C3].getD (nc c) C0, fn, [], fun _ => none, []⟩ : Par)) (nm := "law") (f := 199) ?_ rfl hfa ?_ rfl rfl rfl pu⟩
  · exact fun p hp => nomatch hp
  · exact fun p hp => nomatch hp
  · exact fun p hp => nomatch hp
  · refine ⟨?fn, ?ho, ?cl, ?sub, ?eg, ?ei, ?slf, rfl, ?bl, ?gl, ?gc⟩
    case fn =>
      intro f nm ar e
      have hm := lookup_mem e
      simp only [T, sg, List.mem_cons, Prod.mk.injEq, List.not_mem_nil, or_false] at hm
      rcases hm with ⟨rfl, rfl, rfl⟩ | ⟨rfl, rfl, rfl⟩ | ⟨rfl, rfl, rfl⟩ | ⟨rfl, rfl, rfl⟩ | ⟨rfl, rfl, rfl⟩ | ⟨rfl, rfl, rfl⟩ | ⟨rfl, rfl, rfl⟩ | ⟨rfl, rfl, rfl⟩ | ⟨rfl, rfl, rfl⟩ | ⟨rfl, rfl, rfl⟩ | ⟨rfl, rfl, rfl⟩ | ⟨rfl, rfl, rfl⟩ | ⟨rfl, rfl, rfl⟩ | ⟨rfl, rfl, rfl⟩ | ⟨rfl, rfl, rfl⟩ | ⟨rfl, rfl, rfl⟩ | ⟨rfl, rfl, rfl⟩ | ⟨rfl, rfl, rfl⟩ | ⟨rfl, rfl, rfl⟩ | ⟨rfl, rfl, rfl⟩ | ⟨rfl, rfl, rfl⟩ | ⟨rfl, rfl, rfl⟩ | ⟨rfl, rfl, rfl⟩ | ⟨rfl, rfl, rfl⟩ | ⟨rfl, rfl, rfl⟩ | ⟨rfl, rfl, rfl⟩ | ⟨rfl, rfl, rfl⟩ | ⟨rfl, rfl, rfl⟩ | ⟨rfl, rfl, rfl⟩ | ⟨rfl, rfl, rfl⟩ | ⟨rfl, rfl, rfl⟩ | ⟨rfl, rfl, rfl⟩
      ·
        exact ⟨f_is_integer, rfl, rfl, fa0, "is_integer", "is_integer", defArgs (top 8), defBody (top 8), defScope (top 8), .none, kV0, dc0, pm0, cd0, ct0, oc0, an0, od0, sl0, PySem.W.mg_of X G a0, k0, by decide +kernel, l0, c0, sc_f_is_integer, fun us (hl : us.length = 1) => match us, hl with | [_], _ => rfl, fun n ks ix hm => by simp [T, sg] at hm, ck_f_is_integer, fun _ hz => nomatch hz⟩
      ·
        exact ⟨f_is_natural, rfl, rfl, fa1, "is_natural", "is_natural", defArgs (top 9), defBody (top 9), defScope (top 9), .none, kV1, dc1, pm1, cd1, ct1, oc1, an1, od1, sl1, PySem.W.mg_of X G a1, k1, by decide +kernel, l1, c1, sc_f_is_natural, fun us (hl : us.length = 1) => match us, hl with | [_], _ => rfl, fun n ks ix hm => by simp [T, sg] at hm, ck_f_is_natural, fun _ hz => nomatch hz⟩
      ·
        exact ⟨f_is_pair, rfl, rfl, fa2, "is_pair", "is_pair", defArgs (top 10), defBody (top 10), defScope (top 10), .none, kV2, dc2, pm2, cd2, ct2, oc2, an2, od2, sl2, PySem.W.mg_of X G a2, k2, by decide +kernel, l2, c2, sc_f_is_pair, fun us (hl : us.length = 1) => match us, hl with | [_], _ => rfl, fun n ks ix hm => by simp [T, sg] at hm, ck_f_is_pair, fun _ hz => nomatch hz⟩
      ·
        exact ⟨f_is_triple, rfl, rfl, fa3, "is_triple", "is_triple", defArgs (top 11), defBody (top 11), defScope (top 11), .none, kV3, dc3, pm3, cd3, ct3, oc3, an3, od3, sl3, PySem.W.mg_of X G a3, k3, by decide +kernel, l3, c3, sc_f_is_triple, fun us (hl : us.length = 1) => match us, hl with | [_], _ => rfl, fun n ks ix hm => by simp [T, sg] at hm, ck_f_is_triple, fun _ hz => nomatch hz⟩
      ·
        exact ⟨f_is_fraction, rfl, rfl, fa4, "is_fraction", "is_fraction", defArgs (top 12), defBody (top 12), defScope (top 12), .none, kV4, dc4, pm4, cd4, ct4, oc4, an4, od4, sl4, PySem.W.mg_of X G a4, k4, by decide +kernel, l4, c4, sc_f_is_fraction, fun us (hl : us.length = 1) => match us, hl with | [_], _ => rfl, fun n ks ix hm => by simp [T, sg] at hm, ck_f_is_fraction, fun _ hz => nomatch hz⟩
      ·
        exact ⟨f_is_scheme, rfl, rfl, fa5, "is_scheme", "is_scheme", defArgs (top 14), defBody (top 14), defScope (top 14), .none, kV5, dc5, pm5, cd5, ct5, oc5, an5, od5, sl5, PySem.W.mg_of X G a5, k5, by decide +kernel, l5, c5, sc_f_is_scheme, fun us (hl : us.length = 1) => match us, hl with | [_], _ => rfl, fun n ks ix hm => by simp [T, sg] at hm, ck_f_is_scheme, fun _ hz => nomatch hz⟩
      ·
        exact ⟨f_need_scheme, rfl, rfl, fa6, "need_scheme", "need_scheme", defArgs (top 15), defBody (top 15), defScope (top 15), .none, kV6, dc6, pm6, cd6, ct6, oc6, an6, od6, sl6, PySem.W.mg_of X G a6, k6, by decide +kernel, l6, c6, sc_f_need_scheme, fun us (hl : us.length = 1) => match us, hl with | [_], _ => rfl, fun n ks ix hm => by simp [T, sg] at hm, ck_f_need_scheme, fun _ hz => nomatch hz⟩
      ·
        exact ⟨f_radix, rfl, rfl, fa7, "radix", "radix", defArgs (top 16), defBody (top 16), defScope (top 16), .none, kV7, dc7, pm7, cd7, ct7, oc7, an7, od7, sl7, PySem.W.mg_of X G a7, k7, by decide +kernel, l7, c7, sc_f_radix, fun us (hl : us.length = 1) => match us, hl with | [_], _ => rfl, fun n ks ix hm => by simp [T, sg] at hm, ck_f_radix, fun _ hz => nomatch hz⟩
      ·
        exact ⟨f_is_kind, rfl, rfl, fa8, "is_kind", "is_kind", defArgs (top 18), defBody (top 18), defScope (top 18), .none, kV8, dc8, pm8, cd8, ct8, oc8, an8, od8, sl8, PySem.W.mg_of X G a8, k8, by decide +kernel, l8, c8, sc_f_is_kind, fun us (hl : us.length = 1) => match us, hl with | [_], _ => rfl, fun n ks ix hm => by simp [T, sg] at hm, ck_f_is_kind, fun _ hz => nomatch hz⟩
      ·
        exact ⟨f_need_kind, rfl, rfl, fa9, "need_kind", "need_kind", defArgs (top 19), defBody (top 19), defScope (top 19), .none, kV9, dc9, pm9, cd9, ct9, oc9, an9, od9, sl9, PySem.W.mg_of X G a9, k9, by decide +kernel, l9, c9, sc_f_need_kind, fun us (hl : us.length = 1) => match us, hl with | [_], _ => rfl, fun n ks ix hm => by simp [T, sg] at hm, ck_f_need_kind, fun _ hz => nomatch hz⟩
      ·
        exact ⟨f_is_operands, rfl, rfl, fa10, "is_operands", "is_operands", defArgs (top 20), defBody (top 20), defScope (top 20), .none, kV10, dc10, pm10, cd10, ct10, oc10, an10, od10, sl10, PySem.W.mg_of X G a10, k10, by decide +kernel, l10, c10, sc_f_is_operands, fun us (hl : us.length = 3) => match us, hl with | [_, _, _], _ => rfl, fun n ks ix hm => by simp [T, sg] at hm, ck_f_is_operands, fun _ hz => nomatch hz⟩
      ·
        exact ⟨f_is_within, rfl, rfl, fa11, "is_within", "is_within", defArgs (top 21), defBody (top 21), defScope (top 21), .none, kV11, dc11, pm11, cd11, ct11, oc11, an11, od11, sl11, PySem.W.mg_of X G a11, k11, by decide +kernel, l11, c11, sc_f_is_within, fun us (hl : us.length = 3) => match us, hl with | [_, _, _], _ => rfl, fun n ks ix hm => by simp [T, sg] at hm, ck_f_is_within, fun _ hz => nomatch hz⟩
      ·
        exact ⟨f_whole, rfl, rfl, fa12, "whole", "whole", defArgs (top 22), defBody (top 22), defScope (top 22), .none, kV12, dc12, pm12, cd12, ct12, oc12, an12, od12, sl12, PySem.W.mg_of X G a12, k12, by decide +kernel, l12, c12, sc_f_whole, fun us (hl : us.length = 2) => match us, hl with | [_, _], _ => rfl, fun n ks ix hm => by simp [T, sg] at hm, ck_f_whole, fun _ hz => nomatch hz⟩
      ·
        exact ⟨f_is_remainder, rfl, rfl, fa13, "_is_remainder", "_is_remainder", defArgs (top 23), defBody (top 23), defScope (top 23), .none, kV13, dc13, pm13, cd13, ct13, oc13, an13, od13, sl13, PySem.W.mg_of X G a13, k13, by decide +kernel, l13, c13, sc_f_is_remainder, fun us (hl : us.length = 2) => match us, hl with | [_, _], _ => rfl, fun n ks ix hm => by simp [T, sg] at hm, ck_f_is_remainder, fun _ hz => nomatch hz⟩
      ·
        exact ⟨f_is_divisor, rfl, rfl, fa14, "_is_divisor", "_is_divisor", defArgs (top 24), defBody (top 24), defScope (top 24), .none, kV14, dc14, pm14, cd14, ct14, oc14, an14, od14, sl14, PySem.W.mg_of X G a14, k14, by decide +kernel, l14, c14, sc_f_is_divisor, fun us (hl : us.length = 2) => match us, hl with | [_, _], _ => rfl, fun n ks ix hm => by simp [T, sg] at hm, ck_f_is_divisor, fun _ hz => nomatch hz⟩
      ·
        exact ⟨f_need_start, rfl, rfl, fa15, "need_start", "need_start", defArgs (top 26), defBody (top 26), defScope (top 26), .none, kV15, dc15, pm15, cd15, ct15, oc15, an15, od15, sl15, PySem.W.mg_of X G a15, k15, by decide +kernel, l15, c15, sc_f_need_start, fun us (hl : us.length = 4) => match us, hl with | [_, _, _, _], _ => rfl, fun n ks ix hm => by simp [T, sg] at hm, ck_f_need_start, fun _ hz => nomatch hz⟩
      ·
        exact ⟨f_need_mode, rfl, rfl, fa16, "need_mode", "need_mode", defArgs (top 29), defBody (top 29), defScope (top 29), .none, kV16, dc16, pm16, cd16, ct16, oc16, an16, od16, sl16, PySem.W.mg_of X G a16, k16, by decide +kernel, l16, c16, sc_f_need_mode, fun us (hl : us.length = 1) => match us, hl with | [_], _ => rfl, fun n ks ix hm => by simp [T, sg] at hm, ck_f_need_mode, fun _ hz => nomatch hz⟩
      ·
        exact ⟨f_exact, rfl, rfl, fa17, "exact", "exact", defArgs (top 30), defBody (top 30), defScope (top 30), .none, kV17, dc17, pm17, cd17, ct17, oc17, an17, od17, sl17, PySem.W.mg_of X G a17, k17, by decide +kernel, l17, c17, sc_f_exact, fun us (hl : us.length = 5) => match us, hl with | [_, _, _, _, _], _ => rfl, fun n ks ix hm => by
        simp [T, sg] at hm
        obtain ⟨rfl, rfl, rfl⟩ := hm
        exact fun us ws h1 h2 => match us, ws, h1, h2 with | [], [_, _, _, _, _], _, _ => rfl, ck_f_exact, fun _ hz => nomatch hz⟩
      ·
        exact ⟨f_rounded, rfl, rfl, fa18, "rounded", "rounded", defArgs (top 31), defBody (top 31), defScope (top 31), .none, kV18, dc18, pm18, cd18, ct18, oc18, an18, od18, sl18, PySem.W.mg_of X G a18, k18, by decide +kernel, l18, c18, sc_f_rounded, fun us (hl : us.length = 2) => match us, hl with | [_, _], _ => rfl, fun n ks ix hm => by simp [T, sg] at hm, ck_f_rounded, fun _ hz => nomatch hz⟩
      ·
        exact ⟨f_nearest, rfl, rfl, fa19, "nearest", "nearest", defArgs (top 32), defBody (top 32), defScope (top 32), .none, kV19, dc19, pm19, cd19, ct19, oc19, an19, od19, sl19, PySem.W.mg_of X G a19, k19, by decide +kernel, l19, c19, sc_f_nearest, fun us (hl : us.length = 3) => match us, hl with | [_, _, _], _ => rfl, fun n ks ix hm => by simp [T, sg] at hm, ck_f_nearest, fun _ hz => nomatch hz⟩
      ·
        exact ⟨f_chosen, rfl, rfl, fa20, "_chosen", "_chosen", defArgs (top 33), defBody (top 33), defScope (top 33), .none, kV20, dc20, pm20, cd20, ct20, oc20, an20, od20, sl20, PySem.W.mg_of X G a20, k20, by decide +kernel, l20, c20, sc_f_chosen, fun us (hl : us.length = 4) => match us, hl with | [_, _, _, _], _ => rfl, fun n ks ix hm => by simp [T, sg] at hm, ck_f_chosen, fun _ hz => nomatch hz⟩
      ·
        exact ⟨lf_deck_40, rfl, rfl, fa21, "_law_deck", "_law_deck", defArgs (top 35), defBody (top 35), defScope (top 35), .none, kV21, dc21, pm21, cd21, ct21, oc21, an21, od21, sl21, PySem.W.mg_of X G a21, k21, by decide +kernel, l21, c21, sc_lf_deck_40, fun us (hl : us.length = 1) => match us, hl with | [_], _ => rfl, fun n ks ix hm => by simp [T, sg] at hm, ck_lf_deck_40, fun _ hz => nomatch hz⟩
      ·
        exact ⟨lf_draw_40, rfl, rfl, fa22, "_law_draw", "_law_draw", defArgs (top 36), defBody (top 36), defScope (top 36), .none, kV22, dc22, pm22, cd22, ct22, oc22, an22, od22, sl22, PySem.W.mg_of X G a22, k22, by decide +kernel, l22, c22, sc_lf_draw_40, fun us (hl : us.length = 2) => match us, hl with | [_, _], _ => rfl, fun n ks ix hm => by simp [T, sg] at hm, ck_lf_draw_40, fun _ hz => nomatch hz⟩
      ·
        exact ⟨lf_pick_0, rfl, rfl, fa23, "_law_pick", "_law_pick", defArgs (top 37), defBody (top 37), defScope (top 37), .none, kV23, dc23, pm23, cd23, ct23, oc23, an23, od23, sl23, PySem.W.mg_of X G a23, k23, by decide +kernel, l23, c23, sc_lf_pick_0, fun us (hl : us.length = 2) => match us, hl with | [_, _], _ => rfl, fun n ks ix hm => by simp [T, sg] at hm, ck_lf_pick_0, fun _ hz => nomatch hz⟩
      ·
        exact ⟨lf_reached_1, rfl, rfl, fa24, "_law_reached", "_law_reached", defArgs (top 38), defBody (top 38), defScope (top 38), .none, kV24, dc24, pm24, cd24, ct24, oc24, an24, od24, sl24, PySem.W.mg_of X G a24, k24, by decide +kernel, l24, c24, sc_lf_reached_1, fun us (hl : us.length = 3) => match us, hl with | [_, _, _], _ => rfl, fun n ks ix hm => by simp [T, sg] at hm, ck_lf_reached_1, fun _ hz => nomatch hz⟩
      ·
        exact ⟨lf_scheme_2, rfl, rfl, fa25, "_law_scheme", "_law_scheme", defArgs (top 39), defBody (top 39), defScope (top 39), .none, kV25, dc25, pm25, cd25, ct25, oc25, an25, od25, sl25, PySem.W.mg_of X G a25, k25, by decide +kernel, l25, c25, sc_lf_scheme_2, fun us (hl : us.length = 1) => match us, hl with | [_], _ => rfl, fun n ks ix hm => by simp [T, sg] at hm, ck_lf_scheme_2, fun _ hz => nomatch hz⟩
      ·
        exact ⟨lf_far_0, rfl, rfl, fa26, "_law_far", "_law_far", defArgs (top 40), defBody (top 40), defScope (top 40), .none, kV26, dc26, pm26, cd26, ct26, oc26, an26, od26, sl26, PySem.W.mg_of X G a26, k26, by decide +kernel, l26, c26, sc_lf_far_0, fun us (hl : us.length = 2) => match us, hl with | [_, _], _ => rfl, fun n ks ix hm => by simp [T, sg] at hm, ck_lf_far_0, fun _ hz => nomatch hz⟩
      ·
        exact ⟨lf_operands_2, rfl, rfl, fa27, "_law_operands", "_law_operands", defArgs (top 41), defBody (top 41), defScope (top 41), .none, kV27, dc27, pm27, cd27, ct27, oc27, an27, od27, sl27, PySem.W.mg_of X G a27, k27, by decide +kernel, l27, c27, sc_lf_operands_2, fun us (hl : us.length = 3) => match us, hl with | [_, _, _], _ => rfl, fun n ks ix hm => by simp [T, sg] at hm, ck_lf_operands_2, fun _ hz => nomatch hz⟩
      ·
        exact ⟨lf_rounded_0, rfl, rfl, fa28, "_law_rounded", "_law_rounded", defArgs (top 42), defBody (top 42), defScope (top 42), .none, kV28, dc28, pm28, cd28, ct28, oc28, an28, od28, sl28, PySem.W.mg_of X G a28, k28, by decide +kernel, l28, c28, sc_lf_rounded_0, fun us (hl : us.length = 3) => match us, hl with | [_, _, _], _ => rfl, fun n ks ix hm => by simp [T, sg] at hm, ck_lf_rounded_0, fun _ hz => nomatch hz⟩
      ·
        exact ⟨lf_common_1, rfl, rfl, fa29, "_law_common", "_law_common", defArgs (top 43), defBody (top 43), defScope (top 43), .none, kV29, dc29, pm29, cd29, ct29, oc29, an29, od29, sl29, PySem.W.mg_of X G a29, k29, by decide +kernel, l29, c29, sc_lf_common_1, fun us (hl : us.length = 2) => match us, hl with | [_, _], _ => rfl, fun n ks ix hm => by simp [T, sg] at hm, ck_lf_common_1, fun _ hz => nomatch hz⟩
      ·
        exact ⟨lf_is_told_3, rfl, rfl, fa30, "_law_is_told", "_law_is_told", defArgs (top 44), defBody (top 44), defScope (top 44), .none, kV30, dc30, pm30, cd30, ct30, oc30, an30, od30, sl30, PySem.W.mg_of X G a30, k30, by decide +kernel, l30, c30, sc_lf_is_told_3, fun us (hl : us.length = 4) => match us, hl with | [_, _, _, _], _ => rfl, fun n ks ix hm => by simp [T, sg] at hm, ck_lf_is_told_3, fun _ hz => nomatch hz⟩
      ·
        exact ⟨f_law, rfl, rfl, fa, "law", "law", defArgs (top 45), defBody (top 45), defScope (top 45), .none, kV31, dc31, pm31, cd31, ct31, oc31, an31, od31, sl31, PySem.W.mg_of X G a31, k31, by decide +kernel, l31, c31, sc_f_law, fun us (hl : us.length = 1) => match us, hl with | [_], _ => rfl, fun n ks ix hm => by simp [T, sg] at hm, ck_f_law, fun _ hz => nomatch hz⟩
    case ho =>
      intro f nm e
      match f, e with
      | n + 0, e => simp [T, sg] at e
    case cl =>
      intro c nm f e
      have O0 : OwnE K C0 := ⟨⟨nm0, q0, Na0, bs0, bm0, sn0, su0, ab0, co0, dd0, m00, m10, m20, m30, m50, xL0, bm0h⟩, sa0, eC0, tC0, kC0⟩
      have O1 : OwnE K C1 := ⟨⟨nm1, q1, Na1, bs1, bm1, sn1, su1, ab1, co1, dd1, m01, m11, m21, m31, m51, xL1, bm1h⟩, sa1, eC1, tC1, kC1⟩
      have O2 : OwnE K C2 := ⟨⟨nm2, q2, Na2, bs2, bm2, sn2, su2, ab2, co2, dd2, m02, m12, m22, m32, m52, xL2, bm2h⟩, sa2, eC2, tC2, kC2⟩
      have O3 : OwnE K C3 := ⟨⟨nm3, q3, Na3, bs3, bm3, sn3, su3, ab3, co3, dd3, m03, m13, m23, m33, m53, xL3, bm3h⟩, sa3, eC3, tC3, kC3⟩
      have hm := lookup_mem e
      simp only [T, sg, List.mem_cons, Prod.mk.injEq, List.not_mem_nil, or_false] at hm
      rcases hm with ⟨rfl, rfl, rfl⟩ | ⟨rfl, rfl, rfl⟩ | ⟨rfl, rfl, rfl⟩ | ⟨rfl, rfl, rfl⟩
      · exact ⟨rfl, PySem.W.mg_of X G aC0, by decide +kernel, O0, g0, _, _, iC0, tI0, init_ok O0 nb0 ⟨by decide +kernel, by decide +kernel, by decide +kernel, by decide +kernel, by decide +kernel⟩ lI0 cI0, rfl, fun us (hl : us.length = 2) => match us, hl with | [_, _], _ => rfl⟩
      · exact ⟨rfl, PySem.W.mg_of X G aC1, by decide +kernel, O1, g1, _, _, iC1, tI1, init_ok O1 nb1 ⟨by decide +kernel, by decide +kernel, by decide +kernel, by decide +kernel, by decide +kernel⟩ lI1 cI1, rfl, fun us (hl : us.length = 2) => match us, hl with | [_, _], _ => rfl⟩
      · exact ⟨rfl, PySem.W.mg_of X G aC2, by decide +kernel, O2, g2, _, _, iC2, tI2, init_ok O2 nb2 ⟨by decide +kernel, by decide +kernel, by decide +kernel, by decide +kernel, by decide +kernel⟩ lI2 cI2, rfl, fun us (hl : us.length = 2) => match us, hl with | [_, _], _ => rfl⟩
      · exact ⟨rfl, PySem.W.mg_of X G aC3, by decide +kernel, O3, g3, _, _, iC3, tI3, init_ok O3 nb3 ⟨by decide +kernel, by decide +kernel, by decide +kernel, by decide +kernel, by decide +kernel⟩ lI3 cI3, rfl, fun us (hl : us.length = 2) => match us, hl with | [_, _], _ => rfl⟩
    case sub =>
      intro a b
      show PySem.W.exmOne K (.ref ((⟨[], fun c => [C0, C1, C2, C3].getD (nc c) C0, fn, [], fun _ => none, []⟩ : Par).CA a)) (.ref ((⟨[], fun c => [C0, C1, C2, C3].getD (nc c) C0, fn, [], fun _ => none, []⟩ : Par).CA b)) = some (sub a b)
      have hc : ∀ c : Nat, nc c = 0 ∨ nc c = 1 ∨ nc c = 2 ∨ nc c = 3 := fun c => by unfold nc; repeat' (first | omega | split)
      unfold sub
      show PySem.W.exmOne K (.ref ([C0, C1, C2, C3].getD (nc a) C0)) (.ref ([C0, C1, C2, C3].getD (nc b) C0)) = some (nc a == nc b)
      obtain ⟨x, hx⟩ : ∃ x, x = nc a := ⟨_, rfl⟩
      obtain ⟨y, hy⟩ : ∃ y, y = nc b := ⟨_, rfl⟩
      have h1 := hc a
      have h2 := hc b
      rw [← hx] at h1 ⊢
      rw [← hy] at h2 ⊢
      rcases h1 with rfl | rfl | rfl | rfl
      · rcases h2 with rfl | rfl | rfl | rfl
        · exact exm_pair eC0 oC0 tC0 s0_0
        · exact exm_pair eC1 oC1 tC1 s0_1
        · exact exm_pair eC2 oC2 tC2 s0_2
        · exact exm_pair eC3 oC3 tC3 s0_3
      · rcases h2 with rfl | rfl | rfl | rfl
        · exact exm_pair eC0 oC0 tC0 s1_0
        · exact exm_pair eC1 oC1 tC1 s1_1
        · exact exm_pair eC2 oC2 tC2 s1_2
        · exact exm_pair eC3 oC3 tC3 s1_3
      · rcases h2 with rfl | rfl | rfl | rfl
        · exact exm_pair eC0 oC0 tC0 s2_0
        · exact exm_pair eC1 oC1 tC1 s2_1
        · exact exm_pair eC2 oC2 tC2 s2_2
        · exact exm_pair eC3 oC3 tC3 s2_3
      · rcases h2 with rfl | rfl | rfl | rfl
        · exact exm_pair eC0 oC0 tC0 s3_0
        · exact exm_pair eC1 oC1 tC1 s3_1
        · exact exm_pair eC2 oC2 tC2 s3_2
        · exact exm_pair eC3 oC3 tC3 s3_3
    case eg =>
      intro c
      obtain ⟨x, hx⟩ : ∃ x, x = nc c := ⟨_, rfl⟩
      have h1 : nc c = 0 ∨ nc c = 1 ∨ nc c = 2 ∨ nc c = 3 := by unfold nc; repeat' (first | omega | split)
      show ExG K ([C0, C1, C2, C3].getD (nc c) C0) (fn c)
      unfold fn
      rw [← hx] at h1 ⊢
      rcases h1 with rfl | rfl | rfl | rfl
      · exact ⟨ga0, gg0, nb0, eC0, hC0⟩
      · exact ⟨ga1, gg1, nb1, eC1, hC1⟩
      · exact ⟨ga2, gg2, nb2, eC2, hC2⟩
      · exact ⟨ga3, gg3, nb3, eC3, hC3⟩
    case ei =>
      intro c
      obtain ⟨x, hx⟩ : ∃ x, x = nc c := ⟨_, rfl⟩
      have h1 : nc c = 0 ∨ nc c = 1 ∨ nc c = 2 ∨ nc c = 3 := by unfold nc; repeat' (first | omega | split)
      show ExI K ([C0, C1, C2, C3].getD (nc c) C0)
      rw [← hx] at h1 ⊢
      rcases h1 with rfl | rfl | rfl | rfl
      · exact (show ExI K C0 from ⟨by obtain ⟨cd, hc, _⟩ := PySem.W.any_some hC0; rw [hc]; rfl, ga0, gg0, eC0, xc0, gs0, gs1, mo0⟩)
      · exact (show ExI K C1 from ⟨by obtain ⟨cd, hc, _⟩ := PySem.W.any_some hC1; rw [hc]; rfl, ga1, gg1, eC1, xc1, gs0, gs1, mo1⟩)
      · exact (show ExI K C2 from ⟨by obtain ⟨cd, hc, _⟩ := PySem.W.any_some hC2; rw [hc]; rfl, ga2, gg2, eC2, xc2, gs0, gs1, mo2⟩)
      · exact (show ExI K C3 from ⟨by obtain ⟨cd, hc, _⟩ := PySem.W.any_some hC3; rw [hc]; rfl, ga3, gg3, eC3, xc3, gs0, gs1, mo3⟩)
    case slf =>
      intro a b e
      have e : ([C0, C1, C2, C3].getD (nc a) C0) = ([C0, C1, C2, C3].getD (nc b) C0) := e
      show (nc a == nc b) = true
      have hc : ∀ c : Nat, nc c = 0 ∨ nc c = 1 ∨ nc c = 2 ∨ nc c = 3 := fun c => by unfold nc; repeat' (first | omega | split)
      obtain ⟨x, hx⟩ : ∃ x, x = nc a := ⟨_, rfl⟩
      obtain ⟨y, hy⟩ : ∃ y, y = nc b := ⟨_, rfl⟩
      have h1 := hc a
      have h2 := hc b
      rw [← hx] at h1 e ⊢
      rw [← hy] at h2 e ⊢
      rcases h1 with rfl | rfl | rfl | rfl
      · rcases h2 with rfl | rfl | rfl | rfl
        · rfl
        · have h := s0_1; rw [← (show C0 = C1 from e), s0_0] at h; cases h
        · have h := s0_2; rw [← (show C0 = C2 from e), s0_0] at h; cases h
        · have h := s0_3; rw [← (show C0 = C3 from e), s0_0] at h; cases h
      · rcases h2 with rfl | rfl | rfl | rfl
        · have h := s1_0; rw [← (show C1 = C0 from e), s1_1] at h; cases h
        · rfl
        · have h := s1_2; rw [← (show C1 = C2 from e), s1_1] at h; cases h
        · have h := s1_3; rw [← (show C1 = C3 from e), s1_1] at h; cases h
      · rcases h2 with rfl | rfl | rfl | rfl
        · have h := s2_0; rw [← (show C2 = C0 from e), s2_2] at h; cases h
        · have h := s2_1; rw [← (show C2 = C1 from e), s2_2] at h; cases h
        · rfl
        · have h := s2_3; rw [← (show C2 = C3 from e), s2_2] at h; cases h
      · rcases h2 with rfl | rfl | rfl | rfl
        · have h := s3_0; rw [← (show C3 = C0 from e), s3_3] at h; cases h
        · have h := s3_1; rw [← (show C3 = C1 from e), s3_3] at h; cases h
        · have h := s3_2; rw [← (show C3 = C2 from e), s3_3] at h; cases h
        · rfl
    case bl =>
      intro x hx hn
      have hx : x ∈ (["abs", "bool", "gcd", "int", "isinstance", "len", "list", "max", "min", "range", "repr", "tuple"] : List Str) := hx
      simp only [List.mem_cons, List.not_mem_nil, or_false] at hx
      rcases hx with rfl | rfl | rfl | rfl | rfl | rfl | rfl | rfl | rfl | rfl | rfl | rfl
      · exact PySem.W.mg_none_of X G z0
      · exact PySem.W.mg_none_of X G z1
      · exact absurd rfl hn
      · exact PySem.W.mg_none_of X G z3
      · exact PySem.W.mg_none_of X G z4
      · exact PySem.W.mg_none_of X G z5
      · exact PySem.W.mg_none_of X G z6
      · exact PySem.W.mg_none_of X G z7
      · exact PySem.W.mg_none_of X G z8
      · exact PySem.W.mg_none_of X G z9
      · exact PySem.W.mg_none_of X G z10
      · exact PySem.W.mg_none_of X G z11
    case gl =>
      intro x d hx
      have hx : (x, d) ∈ ([("MODES", (.tup [(.str "down"), (.str "up"), (.str "zero"), (.str "even")]))] : List (Str × D)) := hx
      simp only [List.mem_cons, List.not_mem_nil, or_false, Prod.mk.injEq] at hx
      rcases hx with ⟨rfl, rfl⟩
      · refine ⟨.ref Gm0, .ref Gm0, PySem.W.mg_of X G gla0, rfl, by decide +kernel, fun M H => ?_⟩
        refine (show ∃ a vs, V.ref Gm0 = .ref a ∧ SqT K H a vs ∧ DVs K M H _ vs from ⟨Gm0, [.str "down", .str "up", .str "zero", .str "even"], rfl, .inr ⟨_, _, _, glb0, rfl, rfl, show 4 ≤ sizeLine by decide, (.cons ⟨_, rfl⟩ (.cons ⟨_, rfl⟩ (.cons ⟨_, rfl⟩ (.cons ⟨_, rfl⟩ .nil))))⟩, ?_⟩)
        exact ⟨_, _, rfl, rfl, ⟨_, _, rfl, rfl, ⟨_, _, rfl, rfl, ⟨_, _, rfl, rfl, rfl⟩⟩⟩⟩
    case gc =>
      exact fun _ => PySem.W.mg_of X G z2
  · intro p hp
    exact nomatch hp
end Q.K38
open PySem PySem.W PyProof.Rows
set_option maxRecDepth 100000 in
set_option maxHeartbeats 0 in
theorem PySem.Challenge.cw_quotientcells_k38_exact_quotients_by_int_holds : PySem.Challenge.rw_quotientcells_k38_exact_quotients_by_int.Holds := by
  w_on; o_law; k_head; (case hw => w_witness2)
  k_fill
  refine Q.walk_ofQT (l := PySem.Challenge.rw_quotientcells_k38_exact_quotients_by_int) (n := 63) (x := "script") rfl (by decide) rfl [] ?hrec (fun w h Y => PySem.W.kIn_of Y) ?F
  case hrec => first | rfl | decide +kernel
  case F =>
    intro w mg fa h Y KX G hmg hts
    refine' Q.K38.all_mk KX G hmg hts Q.K38.pure ?a0 ?l0 ?c0 ?k0 ?a1 ?l1 ?c1 ?k1 ?a2 ?l2 ?c2 ?k2 ?a3 ?l3 ?c3 ?k3 ?a4 ?l4 ?c4 ?k4 ?a5 ?l5 ?c5 ?k5 ?a6 ?l6 ?c6 ?k6 ?a7 ?l7 ?c7 ?k7 ?a8 ?l8 ?c8 ?k8 ?a9 ?l9 ?c9 ?k9 ?a10 ?l10 ?c10 ?k10 ?a11 ?l11 ?c11 ?k11 ?a12 ?l12 ?c12 ?k12 ?a13 ?l13 ?c13 ?k13 ?a14 ?l14 ?c14 ?k14 ?a15 ?l15 ?c15 ?k15 ?a16 ?l16 ?c16 ?k16 ?a17 ?l17 ?c17 ?k17 ?a18 ?l18 ?c18 ?k18 ?a19 ?l19 ?c19 ?k19 ?a20 ?l20 ?c20 ?k20 ?a21 ?l21 ?c21 ?k21 ?a22 ?l22 ?c22 ?k22 ?a23 ?l23 ?c23 ?k23 ?a24 ?l24 ?c24 ?k24 ?a25 ?l25 ?c25 ?k25 ?a26 ?l26 ?c26 ?k26 ?a27 ?l27 ?c27 ?k27 ?a28 ?l28 ?c28 ?k28 ?a29 ?l29 ?c29 ?k29 ?a30 ?l30 ?c30 ?k30 ?a31 ?l31 ?c31 ?k31 ?aC0 ?xL0 ?bm0h ?sa0 ?ga0 ?gg0 ?nb0 ?iC0 ?tI0 ?lI0 ?cI0 ?kC0 ?eC0 ?tC0 ?hC0 ?oC0 ?xc0 ?mo0 ?gs0 ?gs1 ?s0_0 ?s0_1 ?s0_2 ?s0_3 ?aC1 ?xL1 ?bm1h ?sa1 ?ga1 ?gg1 ?nb1 ?iC1 ?tI1 ?lI1 ?cI1 ?kC1 ?eC1 ?tC1 ?hC1 ?oC1 ?xc1 ?mo1 ?s1_0 ?s1_1 ?s1_2 ?s1_3 ?aC2 ?xL2 ?bm2h ?sa2 ?ga2 ?gg2 ?nb2 ?iC2 ?tI2 ?lI2 ?cI2 ?kC2 ?eC2 ?tC2 ?hC2 ?oC2 ?xc2 ?mo2 ?s2_0 ?s2_1 ?s2_2 ?s2_3 ?aC3 ?xL3 ?bm3h ?sa3 ?ga3 ?gg3 ?nb3 ?iC3 ?tI3 ?lI3 ?cI3 ?kC3 ?eC3 ?tC3 ?hC3 ?oC3 ?xc3 ?mo3 ?s3_0 ?s3_1 ?s3_2 ?s3_3 ?z0 ?z1 ?z2 ?z3 ?z4 ?z5 ?z6 ?z7 ?z8 ?z9 ?z10 ?z11 ?gla0 ?glb0
    (case a0 => k_is)
    (case l0 => k_is)
    (case c0 => k_is)
    (case k0 => k_is)
    (case a1 => k_is)
    (case l1 => k_is)
    (case c1 => k_is)
    (case k1 => k_is)
    (case a2 => k_is)
    (case l2 => k_is)
    (case c2 => k_is)
    (case k2 => k_is)
    (case a3 => k_is)
    (case l3 => k_is)
    (case c3 => k_is)
    (case k3 => k_is)
    (case a4 => k_is)
    (case l4 => k_is)
    (case c4 => k_is)
    (case k4 => k_is)
    (case a5 => k_is)
    (case l5 => k_is)
    (case c5 => k_is)
    (case k5 => k_is)
    (case a6 => k_is)
    (case l6 => k_is)
    (case c6 => k_is)
    (case k6 => k_is)
    (case a7 => k_is)
    (case l7 => k_is)
    (case c7 => k_is)
    (case k7 => k_is)
    (case a8 => k_is)
    (case l8 => k_is)
    (case c8 => k_is)
    (case k8 => k_is)
    (case a9 => k_is)
    (case l9 => k_is)
    (case c9 => k_is)
    (case k9 => k_is)
    (case a10 => k_is)
    (case l10 => k_is)
    (case c10 => k_is)
    (case k10 => k_is)
    (case a11 => k_is)
    (case l11 => k_is)
    (case c11 => k_is)
    (case k11 => k_is)
    (case a12 => k_is)
    (case l12 => k_is)
    (case c12 => k_is)
    (case k12 => k_is)
    (case a13 => k_is)
    (case l13 => k_is)
    (case c13 => k_is)
    (case k13 => k_is)
    (case a14 => k_is)
    (case l14 => k_is)
    (case c14 => k_is)
    (case k14 => k_is)
    (case a15 => k_is)
    (case l15 => k_is)
    (case c15 => k_is)
    (case k15 => k_is)
    (case a16 => k_is)
    (case l16 => k_is)
    (case c16 => k_is)
    (case k16 => k_is)
    (case a17 => k_is)
    (case l17 => k_is)
    (case c17 => k_is)
    (case k17 => k_is)
    (case a18 => k_is)
    (case l18 => k_is)
    (case c18 => k_is)
    (case k18 => k_is)
    (case a19 => k_is)
    (case l19 => k_is)
    (case c19 => k_is)
    (case k19 => k_is)
    (case a20 => k_is)
    (case l20 => k_is)
    (case c20 => k_is)
    (case k20 => k_is)
    (case a21 => k_is)
    (case l21 => k_is)
    (case c21 => k_is)
    (case k21 => k_is)
    (case a22 => k_is)
    (case l22 => k_is)
    (case c22 => k_is)
    (case k22 => k_is)
    (case a23 => k_is)
    (case l23 => k_is)
    (case c23 => k_is)
    (case k23 => k_is)
    (case a24 => k_is)
    (case l24 => k_is)
    (case c24 => k_is)
    (case k24 => k_is)
    (case a25 => k_is)
    (case l25 => k_is)
    (case c25 => k_is)
    (case k25 => k_is)
    (case a26 => k_is)
    (case l26 => k_is)
    (case c26 => k_is)
    (case k26 => k_is)
    (case a27 => k_is)
    (case l27 => k_is)
    (case c27 => k_is)
    (case k27 => k_is)
    (case a28 => k_is)
    (case l28 => k_is)
    (case c28 => k_is)
    (case k28 => k_is)
    (case a29 => k_is)
    (case l29 => k_is)
    (case c29 => k_is)
    (case k29 => k_is)
    (case a30 => k_is)
    (case l30 => k_is)
    (case c30 => k_is)
    (case k30 => k_is)
    (case a31 => k_is)
    (case l31 => k_is)
    (case c31 => k_is)
    (case k31 => k_is)
    (case aC0 => k_is)
    (case xL0 => k_is)
    (case bm0h => decide +kernel)
    (case sa0 => k_is)
    (case ga0 => k_is)
    (case gg0 => k_is)
    (case nb0 => k_is)
    (case iC0 => k_is)
    (case tI0 => k_is)
    (case lI0 => k_is)
    (case cI0 => k_is)
    (case kC0 => k_is)
    (case eC0 => k_is)
    (case tC0 => k_is)
    (case hC0 => k_is)
    (case oC0 => k_is)
    (case xc0 => k_is)
    (case mo0 => k_is)
    (case gs0 => k_is)
    (case gs1 => k_is)
    (case aC1 => k_is)
    (case xL1 => k_is)
    (case bm1h => decide +kernel)
    (case sa1 => k_is)
    (case ga1 => k_is)
    (case gg1 => k_is)
    (case nb1 => k_is)
    (case iC1 => k_is)
    (case tI1 => k_is)
    (case lI1 => k_is)
    (case cI1 => k_is)
    (case kC1 => k_is)
    (case eC1 => k_is)
    (case tC1 => k_is)
    (case hC1 => k_is)
    (case oC1 => k_is)
    (case xc1 => k_is)
    (case mo1 => k_is)
    (case aC2 => k_is)
    (case xL2 => k_is)
    (case bm2h => decide +kernel)
    (case sa2 => k_is)
    (case ga2 => k_is)
    (case gg2 => k_is)
    (case nb2 => k_is)
    (case iC2 => k_is)
    (case tI2 => k_is)
    (case lI2 => k_is)
    (case cI2 => k_is)
    (case kC2 => k_is)
    (case eC2 => k_is)
    (case tC2 => k_is)
    (case hC2 => k_is)
    (case oC2 => k_is)
    (case xc2 => k_is)
    (case mo2 => k_is)
    (case aC3 => k_is)
    (case xL3 => k_is)
    (case bm3h => decide +kernel)
    (case sa3 => k_is)
    (case ga3 => k_is)
    (case gg3 => k_is)
    (case nb3 => k_is)
    (case iC3 => k_is)
    (case tI3 => k_is)
    (case lI3 => k_is)
    (case cI3 => k_is)
    (case kC3 => k_is)
    (case eC3 => k_is)
    (case tC3 => k_is)
    (case hC3 => k_is)
    (case oC3 => k_is)
    (case xc3 => k_is)
    (case mo3 => k_is)
    (case z0 => k_is)
    (case z1 => k_is)
    (case z2 => k_is)
    (case z3 => k_is)
    (case z4 => k_is)
    (case z5 => k_is)
    (case z6 => k_is)
    (case z7 => k_is)
    (case z8 => k_is)
    (case z9 => k_is)
    (case z10 => k_is)
    (case z11 => k_is)
    (case gla0 => k_is)
    (case glb0 => k_is)
    (case s0_0 => k_is)
    (case s0_1 => k_is)
    (case s0_2 => k_is)
    (case s0_3 => k_is)
    (case s1_0 => k_is)
    (case s1_1 => k_is)
    (case s1_2 => k_is)
    (case s1_3 => k_is)
    (case s2_0 => k_is)
    (case s2_1 => k_is)
    (case s2_2 => k_is)
    (case s2_3 => k_is)
    (case s3_0 => k_is)
    (case s3_1 => k_is)
    (case s3_2 => k_is)
    (case s3_3 => k_is)
end
