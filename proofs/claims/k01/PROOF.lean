import PyProof.Rows.All
import Wide.All
import OpenK.AllK
import Wide.FinOn
import HandS.ForMost
import HandS.Conv
import HandS.Flow
import HandS.Style
import HandS.TupAny
import HandS.TupMul
import HandS.Wide
import HandS.IsInst
import HandS.Deep
import HandS.SortInts
import HandS.NoneIn
import PySem.Challenge.RW_strandsplaited_k01_words_changed
set_option Elab.async false
set_option linter.all false
set_option maxRecDepth 100000
set_option maxHeartbeats 4000000
/-! DL: a layer of data over the hand layer: what a def yields, as a plain function of plain data. -/
namespace DL
open PySem PySem.Spec PyProof.Rows L2

theorem sqt_mono {K : PySem.W.Frag} {H H' : Hp} {a : Addr} {xs : List V} (e : Same H H') (h : SqT K H a xs) : SqT K H' a xs := by
  rcases h with (h | ⟨o, h⟩) | h
  · exact .inl (.inl (e _ _ h))
  · exact .inl (.inr ⟨o, e _ _ h⟩)
  · exact .inr h
theorem same_upd {H : Hp} {p : Addr} {o : HO} (h : H p = none) : Same H (upd H p o) := fun b x e => by
  rw [upd_ne (ne_of_none e h)]
  exact e
theorem same_mut {H H' : Hp} {p : Addr} {o : HO} (e : Same H H') (h : H p = none) : Same H (upd H' p o) := fun b x q => by
  rw [upd_ne (ne_of_none q h)]
  exact e _ _ q

mutual
theorem dp_mono {K : PySem.W.Frag} {H H' : Hp} (e : Same H H') : ∀ (d : PyData) (v : V), Dp K H v d → Dp K H' v d
  | .none, _, h => by cases h; exact .non
  | .bool b, _, h => by cases h; exact .bl b
  | .int i, _, h => by cases h; exact .int i
  | .str x, _, h => by cases h; exact .str x
  | .list ds, _, h => by
    cases h with
    | lst hs ha => exact .lst (e.seq hs) (dpa_mono e ds _ ha)
  | .tuple ds, _, h => by
    cases h with
    | tup hs ha => exact .tup (sqt_mono e hs) (dpa_mono e ds _ ha)
  | .dict _, _, h => by cases h
theorem dpa_mono {K : PySem.W.Frag} {H H' : Hp} (e : Same H H') : ∀ (ds : List PyData) (vs : List V), DpAll K H vs ds → DpAll K H' vs ds
  | [], _, h => by cases h; exact .nil
  | d :: ds, _, h => by
    cases h with
    | cons h1 h2 => exact .cons (dp_mono e d _ h1) (dpa_mono e ds _ h2)
end
section
variable {K : PySem.W.Frag} {H : Hp}
theorem dpa_len : ∀ {vs : List V} {ds : List PyData}, DpAll K H vs ds → vs.length = ds.length
  | _, _, .nil => rfl
  | _, _, .cons _ t => by rw [List.length_cons, List.length_cons, dpa_len t]
theorem dpa_app : ∀ {vs ws : List V} {ds es : List PyData}, DpAll K H vs ds → DpAll K H ws es → DpAll K H (vs ++ ws) (ds ++ es)
  | _, _, _, _, .nil, h => h
  | _, _, _, _, .cons a t, h => .cons a (dpa_app t h)
theorem dpa_take : ∀ {vs : List V} {ds : List PyData} (n : Nat), DpAll K H vs ds → DpAll K H (vs.take n) (ds.take n)
  | _, _, 0, _ => by rw [List.take_zero, List.take_zero]; exact .nil
  | _, _, _ + 1, .nil => .nil
  | _, _, n + 1, .cons a t => .cons a (dpa_take n t)
theorem dpa_drop : ∀ {vs : List V} {ds : List PyData} (n : Nat), DpAll K H vs ds → DpAll K H (vs.drop n) (ds.drop n)
  | _, _, 0, h => h
  | _, _, _ + 1, .nil => .nil
  | _, _, n + 1, .cons a t => dpa_drop n t
theorem dpa_get : ∀ {vs : List V} {ds : List PyData} {i : Nat} {d : PyData}, DpAll K H vs ds → ds[i]? = some d → ∃ v, vs[i]? = some v ∧ Dp K H v d
  | _, _, _, _, .nil, e => by simp at e
  | _, _, 0, _, .cons r _, e => by simp at e; subst e; exact ⟨_, rfl, r⟩
  | _, _, i + 1, _, .cons _ t, e => by
    obtain ⟨u, h1, h2⟩ := dpa_get (i := i) t (by simpa using e)
    exact ⟨u, by simpa using h1, h2⟩
theorem dpa_at : ∀ {vs : List V} {ds : List PyData} {i : Nat} {v : V}, DpAll K H vs ds → vs[i]? = some v → ∃ d, ds[i]? = some d ∧ Dp K H v d
  | _, _, _, _, .nil, e => by simp at e
  | _, _, 0, _, .cons r _, e => by simp at e; subst e; exact ⟨_, rfl, r⟩
  | _, _, i + 1, _, .cons _ t, e => by
    obtain ⟨u, h1, h2⟩ := dpa_at (i := i) t (by simpa using e)
    exact ⟨u, by simpa using h1, h2⟩
theorem dpa_set {v : V} {d : PyData} (r : Dp K H v d) : ∀ {vs : List V} {ds : List PyData} (i : Nat), DpAll K H vs ds → DpAll K H (vs.set i v) (ds.set i d)
  | _, _, _, .nil => .nil
  | _, _, 0, .cons _ t => .cons r t
  | _, _, i + 1, .cons q t => .cons q (dpa_set r i t)
theorem dpa_ints : ∀ ns : List Int, DpAll K H (ns.map V.int) (ns.map PyData.int)
  | [] => .nil
  | n :: ns => .cons (.int n) (dpa_ints ns)
theorem dpa_ints' : ∀ {vs : List V} {ns : List Int}, DpAll K H vs (ns.map PyData.int) → vs = ns.map V.int
  | _, [], h => by cases h; rfl
  | _, n :: ns, h => by
    cases h with
    | cons a t =>
      cases a
      rw [dpa_ints' t, List.map_cons]
end

/-! ### slots, results -/
inductive Slot where
  | und
  | d (x : PyData)
  | own (xs : List PyData)
abbrev Rho := List Slot
inductive Res where
  | fz (x : PyData)
  | nw (xs : List PyData)
  | br (xs : List PyData)
def Res.rd : Res → PyData
  | .fz x => x
  | .nw xs => .list xs
  | .br xs => .list xs

def SlRep (K : PySem.W.Frag) (B Hf H : Hp) : Slot → Option V → Prop
  | .und, _ => True
  | .d x, o => ∃ v, o = some v ∧ Dp K Hf v x
  | .own xs, o => ∃ p vs, o = some (.ref p) ∧ Hf p = none ∧ B p = none ∧ H p = some (.lst vs) ∧ DpAll K Hf vs xs
structure ER (K : PySem.W.Frag) (B Hf H : Hp) (σ : L2.St) (ρ : Rho) : Prop where
  fh : Same Hf H
  bh : Same B H
  len : σ.length = ρ.length
  sl : ∀ (i : Nat) (s : Slot) (o : Option V), ρ[i]? = some s → σ[i]? = some o → SlRep K B Hf H s o
  dj : ∀ (i j : Nat) (xs ys : List PyData) (p : Addr), i ≠ j → ρ[i]? = some (.own xs) → ρ[j]? = some (.own ys) → σ[i]? = some (some (.ref p)) → σ[j]? = some (some (.ref p)) → False

/-- what an expression may do -/
structure Gr (Hf H Hf' H' : Hp) : Prop where
  f : Same Hf Hf'
  h : Same H H'
  fh : Same Hf' H'
  un : ∀ a o, H a = some o → Hf a = none → Hf' a = none
theorem Gr.refl {Hf H : Hp} (e : Same Hf H) : Gr Hf H Hf H := ⟨Same.refl _, Same.refl _, e, fun _ _ _ h => h⟩
theorem Gr.trans {Hf H Hf1 H1 Hf2 H2 : Hp} (a : Gr Hf H Hf1 H1) (b : Gr Hf1 H1 Hf2 H2) : Gr Hf H Hf2 H2 :=
  ⟨a.f.trans b.f, a.h.trans b.h, b.fh, fun x o e n => b.un x o (a.h x o e) (a.un x o e n)⟩
/-- a new object, frozen at once -/
theorem Gr.new {Hf H : Hp} {p : Addr} {o : HO} (e : Same Hf H) (h : H p = none) : Gr Hf H (upd Hf p o) (upd H p o) := by
  have hf : Hf p = none := e.free h
  refine ⟨same_upd hf, same_upd h, fun a x q => ?_, fun a x q n => ?_⟩
  · by_cases z : a = p
    · subst z; rw [upd_same] at q ⊢; exact q
    · rw [upd_ne z] at q ⊢; exact e _ _ q
  · rw [upd_ne (ne_of_none q h)]; exact n
/-- a new object, not frozen -/
theorem Gr.newU {Hf H : Hp} {p : Addr} {o : HO} (e : Same Hf H) (h : H p = none) : Gr Hf H Hf (upd H p o) :=
  ⟨Same.refl _, same_upd h, e.trans (same_upd h), fun _ _ _ n => n⟩

def RR (K : PySem.W.Frag) (B H0 Hf H : Hp) (v : V) : Res → Prop
  | .fz x => Dp K Hf v x
  | .nw xs => ∃ p vs, v = .ref p ∧ H0 p = none ∧ Hf p = none ∧ H p = some (.lst vs) ∧ DpAll K Hf vs xs
  | .br xs => ∃ p vs, v = .ref p ∧ Hf p = none ∧ B p = none ∧ H p = some (.lst vs) ∧ DpAll K Hf vs xs

section
variable {K : PySem.W.Frag} {B H0 Hf H Hf' H' : Hp} {σ : L2.St} {ρ : Rho} {v : V} {r : Res}
theorem ER.grow (er : ER K B Hf H σ ρ) (g : Gr Hf H Hf' H') : ER K B Hf' H' σ ρ := by
  refine ⟨g.fh, er.bh.trans g.h, er.len, fun i s o h1 h2 => ?_, er.dj⟩
  have q := er.sl i s o h1 h2
  cases s with
  | und => trivial
  | d x => obtain ⟨v, e, hd⟩ := q; exact ⟨v, e, dp_mono g.f _ _ hd⟩
  | own xs =>
    obtain ⟨p, vs, e, h3, h4, h5, h6⟩ := q
    exact ⟨p, vs, e, g.un p _ h5 h3, h4, g.h _ _ h5, dpa_mono g.f _ _ h6⟩
theorem RR.grow (q : RR K B H0 Hf H v r) (g : Gr Hf H Hf' H') : RR K B H0 Hf' H' v r := by
  cases r with
  | fz x => exact dp_mono g.f _ _ q
  | nw xs => obtain ⟨p, vs, e, h0, h3, h5, h6⟩ := q; exact ⟨p, vs, e, h0, g.un p _ h5 h3, g.h _ _ h5, dpa_mono g.f _ _ h6⟩
  | br xs => obtain ⟨p, vs, e, h3, h4, h5, h6⟩ := q; exact ⟨p, vs, e, g.un p _ h5 h3, h4, g.h _ _ h5, dpa_mono g.f _ _ h6⟩
theorem RR.back {H1 : Hp} (q : RR K B H1 Hf H v r) (s : Same H0 H1) : RR K B H0 Hf H v r := by
  cases r with
  | fz x => exact q
  | nw xs => obtain ⟨p, vs, e, h0, h3⟩ := q; exact ⟨p, vs, e, s.free h0, h3⟩
  | br xs => exact q
theorem RR.dp (q : RR K B H0 Hf H v r) (e : Same Hf H) : Dp K H v r.rd := by
  cases r with
  | fz x => exact dp_mono e _ _ q
  | nw xs => obtain ⟨p, vs, rfl, h0, h3, h5, h6⟩ := q; exact .lst (SqL.of h5) (dpa_mono e _ _ h6)
  | br xs => obtain ⟨p, vs, rfl, h3, h4, h5, h6⟩ := q; exact .lst (SqL.of h5) (dpa_mono e _ _ h6)
theorem RR.lst {xs : List PyData} (q : RR K B H0 Hf H v r) (e : Same Hf H) (h : r.rd = .list xs) : ∃ a vs, v = .ref a ∧ SqL K H a vs ∧ DpAll K Hf vs xs := by
  cases r with
  | fz x =>
    have h' : x = .list xs := h
    subst h'
    have q' : Dp K Hf v (.list xs) := q
    cases q' with
    | lst hs ha => exact ⟨_, _, rfl, e.seq hs, ha⟩
  | nw ys =>
    obtain ⟨p, vs, rfl, h0, h3, h5, h6⟩ := q
    cases h
    exact ⟨_, _, rfl, SqL.of h5, h6⟩
  | br ys =>
    obtain ⟨p, vs, rfl, h3, h4, h5, h6⟩ := q
    cases h
    exact ⟨_, _, rfl, SqL.of h5, h6⟩
theorem RR.fz_of {x : PyData} (q : RR K B H0 Hf H v r) (h : r.rd = x) (hn : ∀ xs, x ≠ .list xs) : Dp K Hf v x := by
  cases r with
  | fz y => cases h; exact q
  | nw ys => exact absurd h.symm (hn ys)
  | br ys => exact absurd h.symm (hn ys)
theorem RR.tup {xs : List PyData} (q : RR K B H0 Hf H v r) (h : r.rd = .tuple xs) : ∃ a vs, v = .ref a ∧ SqT K Hf a vs ∧ DpAll K Hf vs xs := by
  have q' := q.fz_of h (fun _ z => by cases z)
  cases q' with
  | tup hs ha => exact ⟨_, _, rfl, hs, ha⟩
theorem RR.int {i : Int} (q : RR K B H0 Hf H v r) (h : r.rd = .int i) : v = .int i := by
  have q' := q.fz_of h (fun _ z => by cases z)
  cases q'; rfl
theorem RR.bl {i : Bool} (q : RR K B H0 Hf H v r) (h : r.rd = .bool i) : v = .bl i := by
  have q' := q.fz_of h (fun _ z => by cases z)
  cases q'; rfl
theorem RR.str {i : Str} (q : RR K B H0 Hf H v r) (h : r.rd = .str i) : v = .str i := by
  have q' := q.fz_of h (fun _ z => by cases z)
  cases q'; rfl
theorem RR.non (q : RR K B H0 Hf H v r) (h : r.rd = .none) : v = .non := by
  have q' := q.fz_of h (fun _ z => by cases z)
  cases q'; rfl
/-- made to stand still -/
def Res.fr : Res → Option PyData
  | .fz x => some x
  | .nw xs => some (.list xs)
  | .br _ => none
/-- a result that is no slot's own list is frozen -/
theorem RR.freeze {x : PyData} (er : ER K B Hf H σ ρ) (g : Gr Hf H Hf' H') (q : RR K B H Hf' H' v r) (h : r.fr = some x) : ∃ Hf2, Gr Hf H Hf2 H' ∧ Same Hf' Hf2 ∧ Dp K Hf2 v x := by
  cases r with
  | fz y => cases h; exact ⟨Hf', g, Same.refl _, q⟩
  | nw ys =>
    obtain ⟨p, vs, rfl, h0, h3, h5, h6⟩ := q
    cases h
    refine ⟨upd Hf' p (.lst vs), ⟨g.f.trans (same_upd h3), g.h, fun a o e => ?_, fun a o e n => ?_⟩, same_upd h3, .lst (SqL.of upd_same) (dpa_mono (same_upd h3) _ _ h6)⟩
    · by_cases z : a = p
      · subst z; rw [upd_same] at e; cases e; exact h5
      · rw [upd_ne z] at e; exact g.fh _ _ e
    · rw [upd_ne (ne_of_none e h0)]; exact g.un a o e n
  | br ys => cases h
end

/-! ### the judgements -/
abbrev FE := Rho → Option Res
def tD (K : PySem.W.Frag) (f : FE) : TE := fun σ H Q => ∃ B Hf ρ r, ER K B Hf H σ ρ ∧ f ρ = some r ∧ ∀ v Hf' H', Gr Hf H Hf' H' → RR K B H Hf' H' v r → Q v H'
abbrev DE (X : Cx) (e : Expr) (f : FE) : Prop := PE X e (tD X.K f)
def tDT (K : PySem.W.Frag) (f : Rho → Option Bool) : TT := fun σ H Q => ∃ B Hf ρ b, ER K B Hf H σ ρ ∧ f ρ = some b ∧ ∀ Hf' H', Gr Hf H Hf' H' → Q b H'
abbrev DT (X : Cx) (e : Expr) (f : Rho → Option Bool) : Prop := PT X e (tDT X.K f)
abbrev FA := Rho → Option (List Res)
inductive RRs (K : PySem.W.Frag) (B H0 Hf H : Hp) : List V → List Res → Prop
  | nil : RRs K B H0 Hf H [] []
  | cons {v : V} {vs : List V} {r : Res} {rs : List Res} : RR K B H0 Hf H v r → RRs K B H0 Hf H vs rs → RRs K B H0 Hf H (v :: vs) (r :: rs)
def tDA (K : PySem.W.Frag) (f : FA) : TA := fun σ H Q => ∃ B Hf ρ rs, ER K B Hf H σ ρ ∧ f ρ = some rs ∧ ∀ vs Hf' H', Gr Hf H Hf' H' → RRs K B H Hf' H' vs rs → Q vs H'
abbrev DA (X : Cx) (es : List Expr) (f : FA) : Prop := PA X es (tDA X.K f)

theorem pe_mono {X : Cx} {e : Expr} {t t' : TE} (h : PE X e t) (k : ∀ σ H Q, t' σ H Q → t σ H Q) : PE X e t' := ⟨fun pins s σ H Q I q => h.run pins s σ H Q I (k _ _ _ q)⟩
theorem pt_mono {X : Cx} {e : Expr} {t t' : TT} (h : PT X e t) (k : ∀ σ H Q, t' σ H Q → t σ H Q) : PT X e t' := ⟨fun pins s σ H Q I q => h.run pins s σ H Q I (k _ _ _ q)⟩
theorem pa_mono {X : Cx} {e : List Expr} {t t' : TA} (h : PA X e t) (k : ∀ σ H Q, t' σ H Q → t σ H Q) : PA X e t' := ⟨fun pos pins s σ H Q I q => h.run pos pins s σ H Q I (k _ _ _ q)⟩
theorem ps_mono {X : Cx} {e : Stmt} {t t' : TS} (h : PS X e t) (k : ∀ D σ H, t' D σ H → t D σ H) : PS X e t' := ⟨fun pins s σ H D I q => h.run pins s σ H D I (k _ _ _ q)⟩
theorem pss_mono {X : Cx} {e : List Stmt} {t t' : TS} (h : PSs X e t) (k : ∀ D σ H, t' D σ H → t D σ H) : PSs X e t' := ⟨fun pins s σ H D I q => h.run pins s σ H D I (k _ _ _ q)⟩
theorem pi_mono {X : Cx} {tg e : Expr} {t t' : TI} (h : PI X tg e t) (k : ∀ σ H Q, t' σ H Q → t σ H Q) : PI X tg e t' := ⟨fun pins s σ H Q I q => h.run pins s σ H Q I (k _ _ _ q)⟩
theorem pg_mono {X : Cx} {e : Expr} {t t' : TG} (h : PG X e t) (k : ∀ v σ H Q, t' v σ H Q → t v σ H Q) : PG X e t' := ⟨fun pins s σ H v u Q I r q => h.run pins s σ H v u Q I r (k _ _ _ _ q)⟩

section
variable {X : Cx} {a b c e : Expr} {es : List Expr} {fa fb fc : FE} {pos : Pos}

/-! ### names, constants -/
def fVar (i : Nat) : FE := fun ρ => match ρ[i]? with
  | some (.d x) => some (.fz x)
  | some (.own xs) => some (.br xs)
  | _ => none
theorem d_var (i : Nat) {x : Str} {pos : Pos} (hN : X.N[i]? = some x := by rfl) (hv : Vis X.env.scope x := by first | exact Or.inl rfl | exact Or.inr (Or.inl rfl) | exact Or.inr (Or.inr rfl)) (hd : (x == ("__debug__" : Str)) = false := by decide)
    (hcd : (x == ("__classdict__" : Str)) = false := by decide) : DE X (.Name x pos) (fVar i) := pe_mono (pe_var hN hv hd hcd) fun σ H Q h => by
  obtain ⟨B, Hf, ρ, r, er, hf, k⟩ := h
  unfold fVar at hf
  cases hs : ρ[i]? with
  | none => rw [hs] at hf; cases hf
  | some s =>
    rw [hs] at hf
    have hi : i < σ.length := by rw [er.len]; exact (List.getElem?_eq_some_iff.mp hs).1
    have ho : σ[i]? = some σ[i] := List.getElem?_eq_getElem hi
    have q := er.sl i s _ hs ho
    cases s with
    | und => cases hf
    | d x =>
      cases hf
      obtain ⟨v, e, hd⟩ := q
      exact ⟨v, by rw [ho, e], k v Hf H (Gr.refl er.fh) hd⟩
    | own xs =>
      cases hf
      obtain ⟨p, vs, e, h3, h4, h5, h6⟩ := q
      exact ⟨.ref p, by rw [ho, e], k _ Hf H (Gr.refl er.fh) ⟨p, vs, rfl, h3, h4, h5, h6⟩⟩
def fC (x : PyData) : FE := fun _ => some (.fz x)
theorem d_c {v : V} {x : PyData} (h : PE X e (tC v)) (hd : ∀ H, Dp X.K H v x) : DE X e (fC x) := pe_mono h fun σ H Q h => by
  obtain ⟨B, Hf, ρ, r, er, hf, k⟩ := h
  cases hf
  exact k v Hf H (Gr.refl er.fh) (hd _)
theorem d_int {i j pos} : DE X (.Constant (.int i) j pos) (fC (.int i)) := d_c pe_int fun _ => .int _
theorem d_bl {i j pos} : DE X (.Constant (.bool i) j pos) (fC (.bool i)) := d_c pe_bl fun _ => .bl _
theorem d_non {j pos} : DE X (.Constant .none j pos) (fC .none) := d_c pe_non fun _ => .non
theorem d_str {i j pos} : DE X (.Constant (.str i) j pos) (fC (.str i)) := d_c pe_str fun _ => .str _
theorem d_glob {x : Str} {v : V} {y : PyData} {u : Value} {pos : Pos} (hg : Gl X x) (hm : X.mg x = some u) (r : RelV v u) (hd : ∀ H, Dp X.K H v y) (h2 : (x == ("__debug__" : Str)) = false := by decide) : DE X (.Name x pos) (fC y) := d_c (pe_glob hg hm r h2) hd

/-! ### two operands -/
/-- what an operation on values asks, by data -/
def Op2 (K : PySem.W.Frag) (r : R2) (g : PyData → PyData → Option Res) : Prop :=
  ∀ (B H0 Hf H : Hp) (v u : V) (a b c : Res) (Q : VK), Same Hf H → Same H0 H → RR K B H0 Hf H v a → RR K B H0 Hf H u b → g a.rd b.rd = some c →
    (∀ w Hf' H', Gr Hf H Hf' H' → RR K B H Hf' H' w c → Q w H') → r v u H Q
def f2 (g : PyData → PyData → Option Res) (fa fb : FE) : FE := fun ρ => (fa ρ).bind fun a => (fb ρ).bind fun b => g a.rd b.rd
theorem ent2 {K : PySem.W.Frag} {r : R2} {g : PyData → PyData → Option Res} (o : Op2 K r g) : ∀ σ H Q, tD K (f2 g fa fb) σ H Q → tOp r (tD K fa) (tD K fb) σ H Q := fun σ H Q h => by
  obtain ⟨B, Hf, ρ, c, er, hf, k⟩ := h
  unfold f2 at hf
  obtain ⟨ra, h1, hf⟩ := Option.bind_eq_some_iff.mp hf
  obtain ⟨rb, h2, hf⟩ := Option.bind_eq_some_iff.mp hf
  refine ⟨B, Hf, ρ, ra, er, h1, fun v Hf1 H1 g1 q1 => ⟨B, Hf1, ρ, rb, er.grow g1, h2, fun u Hf2 H2 g2 q2 => ?_⟩⟩
  have g12 := g1.trans g2
  exact o B H Hf2 H2 v u ra rb c Q g2.fh g12.h (q1.grow g2) (q2.back g1.h) hf fun w Hf3 H3 g3 q3 => k w Hf3 H3 (g12.trans g3) (q3.back g12.h)
theorem d_op {op : Operator} {r : R2} {g : PyData → PyData → Option Res} (ho : OpR X (binaryOp op) r) (o : Op2 X.K r g) (ha : DE X a fa) (hb : DE X b fb) : DE X (.BinOp a op b pos) (f2 g fa fb) := pe_mono (pe_op ho ha hb) (ent2 o)
theorem d_cmp {op : CmpOp} {r : R2} {g : PyData → PyData → Option Res} (ho : OpR X (compareOp op) r) (o : Op2 X.K r g) (ha : DE X a fa) (hb : DE X b fb) (hm : behindInMarks op b = false) : DE X (.Compare a [op] [b] pos) (f2 g fa fb) := pe_mono (pe_cmpR ho ha hb hm) (ent2 o)
/-- a bool, as a test -/
def fB (f : FE) : Rho → Option Bool := fun ρ => (f ρ).bind fun r => match r.rd with
  | .bool b => some b
  | _ => none
theorem fB_some {f : FE} {ρ : Rho} {b : Bool} (h : fB f ρ = some b) : ∃ r, f ρ = some r ∧ r.rd = .bool b := by
  unfold fB at h
  obtain ⟨r, h1, h2⟩ := Option.bind_eq_some_iff.mp h
  refine ⟨r, h1, ?_⟩
  split at h2
  · rename_i q; cases h2; exact q
  · cases h2
theorem t_cmp {op : CmpOp} {r : R2} {g : PyData → PyData → Option Res} (ho : OpR X (compareOp op) r) (o : Op2 X.K r g) (ha : DE X a fa) (hb : DE X b fb) (hm : behindInMarks op b = false) : DT X (.Compare a [op] [b] pos) (fB (f2 g fa fb)) := pt_mono (pt_cmpR ho ha hb hm) fun σ H Q h => by
  obtain ⟨B, Hf, ρ, c, er, hf, k⟩ := h
  obtain ⟨r', h1, h2⟩ := fB_some hf
  exact ent2 o σ H _ ⟨B, Hf, ρ, r', er, h1, fun v Hf' H' g' q => ⟨c, q.bl h2, k Hf' H' g'⟩⟩

theorem Op2.or {K : PySem.W.Frag} {r r' : R2} {g g' : PyData → PyData → Option Res} (h : Op2 K r g) (h' : Op2 K r' g') : Op2 K (fun x y H Q => r x y H Q ∨ r' x y H Q) (fun a b => (g a b).or (g' a b)) := fun B H0 Hf H v u a b c Q e1 e2 q1 q2 hg k => by
  rcases Option.or_eq_some_iff.mp hg with z | ⟨_, z⟩
  · exact .inl (h B H0 Hf H v u a b c Q e1 e2 q1 q2 z k)
  · exact .inr (h' B H0 Hf H v u a b c Q e1 e2 q1 q2 z k)
end
end DL
namespace DL
open PySem PySem.Spec PyProof.Rows L2

abbrev small (n : Nat) : Prop := n ≤ 100000
theorem sm_line {n : Nat} (h : small n) : n ≤ sizeLine := Nat.le_trans h (by decide)

instance (i j : Int) : Decidable (CMul i j) := by unfold CMul; infer_instance
/-! ### + -/
def rCatL (K : PySem.W.Frag) : R2 := fun x y H Q => ∃ l b xs zs, x = .ref l ∧ y = .ref b ∧ SqL K H l xs ∧ SqL K H b zs ∧ xs.length + zs.length ≤ sizeLine ∧ ∀ p, H p = none → Q (.ref p) (upd H p (.lst (xs ++ zs)))
theorem op_catL {X : Cx} : OpR X (binaryOp .Add) (rCatL X.K) := by
  intro pins s σ H x y v u Q I rx ry h
  obtain ⟨l, b, xs, zs, rfl, rfl, hH, hB, hz, q⟩ := h
  cases rx
  cases ry
  obtain ⟨its, r, ⟨⟨cls, dd, data, sl⟩, n, ho, hc, hd, hdat⟩, hz1⟩ := I.list hH
  obtain ⟨its2, r2, ⟨⟨cls2, dd2, data2, sl2⟩, n2, ho2, hc2, hd2, hdat2⟩, hz2⟩ := I.list hB
  simp only at hc hdat hc2 hdat2
  subst hc hdat hc2 hdat2
  have h1 := r.length
  have h2 := r2.length
  refine concat_meets ⟨_, ho, rfl⟩ ⟨_, ho2, rfl⟩ noFill_list_add seq_list_add PySem.F.slot_list_add PySem.F.entry_list_add (PySem.F.args_list_add_2 _ _) (list_addW l b its.toArray its2.toArray n n2 dd dd2 sl sl2 (by simp only [List.size_toArray]; omega)) ⟨ho, ho2, ?_⟩
  have ea : its.toArray ++ its2.toArray = (its ++ its2).toArray := by simp
  rw [ea]
  exact ⟨.ref _, _, I.lnew (t' := s.toks) (r.append r2) (by rw [List.length_append]; omega), rfl, q _ I.fresh⟩

def rAdd (K : PySem.W.Frag) : R2 := fun x y H Q => (rI0 (fun i j => .int (i + j)) x y H Q ∨ rCatL K x y H Q) ∨ (rCatA K x y H Q ∨ (∃ i j, x = .str i ∧ y = .str j ∧ i.length + j.length ≤ sizeLine ∧ Q (.str (i ++ j)) H))
theorem op_addD {X : Cx} : OpR X (binaryOp .Add) (rAdd X.K) := (op_add.or op_catL).or (op_catA.or op_add_str)
def gAdd : PyData → PyData → Option Res
  | .int i, .int j => some (.fz (.int (i + j)))
  | .list xs, .list ys => if small (xs.length + ys.length) then some (.nw (xs ++ ys)) else none
  | .tuple xs, .tuple ys => if small (xs.length + ys.length) then some (.fz (.tuple (xs ++ ys))) else none
  | .str x, .str y => if small (x.length + y.length) then some (.fz (.str (x ++ y))) else none
  | _, _ => none
theorem o_add {K : PySem.W.Frag} : Op2 K (rAdd K) gAdd := fun B H0 Hf H v u a b c Q e1 e2 q1 q2 hg k => by
  unfold gAdd at hg
  split at hg
  · rename_i i j h1 h2
    cases hg
    exact .inl (.inl ⟨i, j, q1.int h1, q2.int h2, k _ Hf H (Gr.refl e1) (Dp.int _)⟩)
  · rename_i xs ys h1 h2
    split at hg
    · rename_i hz
      cases hg
      obtain ⟨l, vs, rfl, s1, d1⟩ := q1.lst e1 h1
      obtain ⟨l2, ws, rfl, s2, d2⟩ := q2.lst e1 h2
      refine .inl (.inr ⟨l, l2, vs, ws, rfl, rfl, s1, s2, by rw [dpa_len d1, dpa_len d2]; exact sm_line hz, fun p hp => ?_⟩)
      exact k _ Hf _ (Gr.newU e1 hp) ⟨p, _, rfl, hp, e1.free hp, upd_same, dpa_app d1 d2⟩
    · cases hg
  · rename_i xs ys h1 h2
    split at hg
    · rename_i hz
      cases hg
      obtain ⟨l, vs, rfl, s1, d1⟩ := q1.tup h1
      obtain ⟨l2, ws, rfl, s2, d2⟩ := q2.tup h2
      refine .inr (.inl ⟨l, l2, vs, ws, rfl, rfl, sqt_mono e1 s1, sqt_mono e1 s2, by rw [dpa_len d1, dpa_len d2]; exact sm_line hz, fun z => ?_, fun z1 z2 => ?_, fun z1 z2 p hp => ?_⟩)
      · subst z
        cases d1
        exact k _ Hf H (Gr.refl e1) (Dp.tup s2 d2)
      · subst z2
        cases d2
        rw [List.append_nil] at k
        exact k _ Hf H (Gr.refl e1) (Dp.tup s1 d1)
      · exact k _ _ _ (Gr.new e1 hp) (Dp.tup (SqT.of upd_same) (dpa_mono (same_upd (e1.free hp)) _ _ (dpa_app d1 d2)))
    · cases hg
  · rename_i x y h1 h2
    split at hg
    · rename_i hz
      cases hg
      exact .inr (.inr ⟨x, y, q1.str h1, q2.str h2, sm_line hz, k _ Hf H (Gr.refl e1) (Dp.str _)⟩)
    · cases hg
  · cases hg
section
variable {X : Cx} {a b c e : Expr} {es : List Expr} {fa fb fc : FE} {pos : Pos}
theorem d_add (ha : DE X a fa) (hb : DE X b fb) : DE X (.BinOp a .Add b pos) (f2 gAdd fa fb) := d_op op_addD o_add ha hb

/-! ### ints -/
/-- a rule of two ints -/
theorem o_int {K : PySem.W.Frag} {C : Int → Int → Prop} {h : Int → Int → Int} {g : PyData → PyData → Option Res}
    (hg : ∀ x y c, g x y = some c → ∃ i j, x = .int i ∧ y = .int j ∧ C i j ∧ c = .fz (.int (h i j))) : Op2 K (rI C fun i j => .int (h i j)) g := fun B H0 Hf H v u a b c Q e1 e2 q1 q2 z k => by
  obtain ⟨i, j, h1, h2, hc, rfl⟩ := hg _ _ _ z
  exact ⟨i, j, q1.int h1, q2.int h2, hc, k _ Hf H (Gr.refl e1) (Dp.int _)⟩
theorem o_cmp {K : PySem.W.Frag} {h : Int → Int → Bool} {g : PyData → PyData → Option Res}
    (hg : ∀ x y c, g x y = some c → ∃ i j, x = .int i ∧ y = .int j ∧ c = .fz (.bool (h i j))) : Op2 K (rI0 fun i j => .bl (h i j)) g := fun B H0 Hf H v u a b c Q e1 e2 q1 q2 z k => by
  obtain ⟨i, j, h1, h2, rfl⟩ := hg _ _ _ z
  exact ⟨i, j, q1.int h1, q2.int h2, k _ Hf H (Gr.refl e1) (Dp.bl _)⟩
def gMinus : PyData → PyData → Option Res
  | .int i, .int j => some (.fz (.int (i - j)))
  | _, _ => none
theorem o_sub {K : PySem.W.Frag} : Op2 K (rI0 fun i j => .int (i - j)) gMinus := fun B H0 Hf H v u a b c Q e1 e2 q1 q2 hg k => by
  unfold gMinus at hg
  split at hg
  · rename_i i j h1 h2
    cases hg
    exact ⟨i, j, q1.int h1, q2.int h2, k _ Hf H (Gr.refl e1) (Dp.int _)⟩
  · cases hg
theorem d_sub (ha : DE X a fa) (hb : DE X b fb) : DE X (.BinOp a .Sub b pos) (f2 gMinus fa fb) := d_op op_sub o_sub ha hb
def gDiv : PyData → PyData → Option Res
  | .int i, .int j => if 0 < j ∧ j < 2 ^ 200 then some (.fz (.int (i / j))) else none
  | _, _ => none
theorem d_div (ha : DE X a fa) (hb : DE X b fb) : DE X (.BinOp a .FloorDiv b pos) (f2 gDiv fa fb) := d_op op_fdivW (o_int fun x y c h => by
  unfold gDiv at h
  split at h
  · rename_i i j
    split at h
    · rename_i z
      cases h
      exact ⟨i, j, rfl, rfl, wide_div (b := 200) z.1 (by have := z.2; omega) (by decide) (by decide), rfl⟩
    · cases h
  · cases h) ha hb
def gMod : PyData → PyData → Option Res
  | .int i, .int j => if 0 < j then some (.fz (.int (i % j))) else none
  | _, _ => none
theorem d_mod (ha : DE X a fa) (hb : DE X b fb) : DE X (.BinOp a .Mod b pos) (f2 gMod fa fb) := d_op op_mod (o_int fun x y c h => by
  unfold gMod at h
  split at h
  · rename_i i j
    split at h
    · rename_i z
      cases h
      exact ⟨i, j, rfl, rfl, z, rfl⟩
    · cases h
  · cases h) ha hb
def gPow : PyData → PyData → Option Res
  | .int i, .int j => if 0 ≤ j ∧ j ≤ 1000000 ∧ i.natAbs < 2 ^ 64 then some (.fz (.int (i ^ j.toNat))) else none
  | _, _ => none
theorem d_pow (ha : DE X a fa) (hb : DE X b fb) : DE X (.BinOp a .Pow b pos) (f2 gPow fa fb) := d_op op_pow (o_int fun x y c h => by
  unfold gPow at h
  split at h
  · rename_i i j
    split at h
    · rename_i z
      cases h
      exact ⟨i, j, rfl, rfl, z, rfl⟩
    · cases h
  · cases h) ha hb
/-- * : ints (one factor below 2 ^ 64), list * int, tuple * int -/
def rMul (K : PySem.W.Frag) : R2 := fun x y H Q => rI CMul (fun i j => .int (i * j)) x y H Q ∨ (rRep x y H Q ∨ rRepT K x y H Q)
theorem op_mulD {X : Cx} : OpR X (binaryOp .Mult) (rMul X.K) := op_mul.or (op_rep.or op_repT)
def gMul : PyData → PyData → Option Res
  | .int i, .int j => if CMul i j then some (.fz (.int (i * j))) else none
  | .tuple xs, .int k => if xs ≠ [] ∧ 2 ≤ k ∧ k ≤ 1000 ∧ xs.length ≤ 1000 then some (.fz (.tuple (List.replicate k.toNat xs).flatten)) else none
  | _, _ => none
theorem dpa_rep {K : PySem.W.Frag} {H : Hp} {vs : List V} {ds : List PyData} (h : DpAll K H vs ds) : ∀ n : Nat, DpAll K H (List.replicate n vs).flatten (List.replicate n ds).flatten
  | 0 => .nil
  | n + 1 => by
    rw [List.replicate_succ, List.replicate_succ, List.flatten_cons, List.flatten_cons]
    exact dpa_app h (dpa_rep h n)
theorem o_mul {K : PySem.W.Frag} : Op2 K (rMul K) gMul := fun B H0 Hf H v u a b c Q e1 e2 q1 q2 hg k => by
  unfold gMul at hg
  split at hg
  · rename_i i j h1 h2
    split at hg
    · rename_i z
      cases hg
      exact .inl ⟨i, j, q1.int h1, q2.int h2, z, k _ Hf H (Gr.refl e1) (Dp.int _)⟩
    · cases hg
  · rename_i xs n h1 h2
    split at hg
    · rename_i z
      cases hg
      obtain ⟨l, vs, rfl, s1, d1⟩ := q1.tup h1
      have hl := dpa_len d1
      refine .inr (.inr ⟨l, n, vs, rfl, q2.int h2, sqt_mono e1 s1, fun w => z.1 ?_, z.2.1, z.2.2.1, by rw [hl]; exact z.2.2.2, fun p hp => ?_⟩)
      · subst w; cases d1; rfl
      · exact k _ _ _ (Gr.new e1 hp) (Dp.tup (SqT.of upd_same) (dpa_mono (same_upd (e1.free hp)) _ _ (dpa_rep d1 _)))
    · cases hg
  · cases hg
theorem d_mul (ha : DE X a fa) (hb : DE X b fb) : DE X (.BinOp a .Mult b pos) (f2 gMul fa fb) := d_op op_mulD o_mul ha hb

/-! ### comparisons -/
def gLt : PyData → PyData → Option Res
  | .int i, .int j => some (.fz (.bool (decide (i < j))))
  | _, _ => none
def gLe : PyData → PyData → Option Res
  | .int i, .int j => some (.fz (.bool (decide (i ≤ j))))
  | _, _ => none
def gGt : PyData → PyData → Option Res
  | .int i, .int j => some (.fz (.bool (decide (j < i))))
  | _, _ => none
def gGe : PyData → PyData → Option Res
  | .int i, .int j => some (.fz (.bool (decide (j ≤ i))))
  | _, _ => none
theorem o_lt {K : PySem.W.Frag} : Op2 K (rI0 fun i j => .bl (decide (i < j))) gLt := o_cmp fun x y c h => by
  unfold gLt at h; split at h
  · cases h; exact ⟨_, _, rfl, rfl, rfl⟩
  · cases h
theorem o_le {K : PySem.W.Frag} : Op2 K (rI0 fun i j => .bl (decide (i ≤ j))) gLe := o_cmp fun x y c h => by
  unfold gLe at h; split at h
  · cases h; exact ⟨_, _, rfl, rfl, rfl⟩
  · cases h
theorem o_gt {K : PySem.W.Frag} : Op2 K (rI0 fun i j => .bl (decide (j < i))) gGt := o_cmp fun x y c h => by
  unfold gGt at h; split at h
  · cases h; exact ⟨_, _, rfl, rfl, rfl⟩
  · cases h
theorem o_ge {K : PySem.W.Frag} : Op2 K (rI0 fun i j => .bl (decide (j ≤ i))) gGe := o_cmp fun x y c h => by
  unfold gGe at h; split at h
  · cases h; exact ⟨_, _, rfl, rfl, rfl⟩
  · cases h
def gEq : PyData → PyData → Option Res := fun a b => if SeqAt.shaped a = true ∧ SeqAt.shaped b = true then some (.fz (.bool (PyData.eqv a b))) else none
def gNe : PyData → PyData → Option Res := fun a b => if SeqAt.shaped a = true ∧ SeqAt.shaped b = true then some (.fz (.bool (!PyData.eqv a b))) else none
theorem o_eq {K : PySem.W.Frag} : Op2 K (rEqD K) gEq := fun B H0 Hf H v u a b c Q e1 e2 q1 q2 hg k => by
  unfold gEq at hg
  split at hg
  · rename_i z
    cases hg
    exact ⟨_, _, q1.dp e1, q2.dp e1, z.1, z.2, k _ Hf H (Gr.refl e1) (Dp.bl _)⟩
  · cases hg
theorem o_ne {K : PySem.W.Frag} : Op2 K (rNeD K) gNe := fun B H0 Hf H v u a b c Q e1 e2 q1 q2 hg k => by
  unfold gNe at hg
  split at hg
  · rename_i z
    cases hg
    exact ⟨_, _, q1.dp e1, q2.dp e1, z.1, z.2, k _ Hf H (Gr.refl e1) (Dp.bl _)⟩
  · cases hg
/-- is, is not: None on the right, or two bools -/
def rIs : R2 := fun x y H Q => (y = .non ∧ Q (.bl (decide (x = .non))) H) ∨ rIsB x y H Q
def rIsNot : R2 := fun x y H Q => (y = .non ∧ Q (.bl (!decide (x = .non))) H) ∨ rNotB x y H Q
theorem op_isD : OpR X (compareOp .Is) rIs := op_isN.or op_isBl
theorem op_isnotD : OpR X (compareOp .IsNot) rIsNot := op_notN.or op_notBl
def isNone : PyData → Bool
  | .none => true
  | _ => false
def gIs : PyData → PyData → Option Res
  | a, .none => some (.fz (.bool (isNone a)))
  | .bool a, .bool b => some (.fz (.bool (decide (a = b))))
  | _, _ => none
def gIsNot : PyData → PyData → Option Res
  | a, .none => some (.fz (.bool (!isNone a)))
  | .bool a, .bool b => some (.fz (.bool (!decide (a = b))))
  | _, _ => none
theorem isNone_of {K : PySem.W.Frag} {H : Hp} {v : V} {d : PyData} (h : Dp K H v d) : decide (v = .non) = isNone d := by
  cases h <;> rfl
theorem o_is {K : PySem.W.Frag} : Op2 K rIs gIs := fun B H0 Hf H v u a b c Q e1 e2 q1 q2 hg k => by
  unfold gIs at hg
  split at hg
  · rename_i h2
    cases hg
    refine .inl ⟨q2.non h2, ?_⟩
    rw [isNone_of (q1.dp e1)]
    exact k _ Hf H (Gr.refl e1) (Dp.bl _)
  · rename_i x y h1 h2
    cases hg
    exact .inr ⟨x, y, q1.bl h1, q2.bl h2, k _ Hf H (Gr.refl e1) (Dp.bl _)⟩
  · cases hg
theorem o_isnot {K : PySem.W.Frag} : Op2 K rIsNot gIsNot := fun B H0 Hf H v u a b c Q e1 e2 q1 q2 hg k => by
  unfold gIsNot at hg
  split at hg
  · rename_i h2
    cases hg
    refine .inl ⟨q2.non h2, ?_⟩
    rw [isNone_of (q1.dp e1)]
    exact k _ Hf H (Gr.refl e1) (Dp.bl _)
  · rename_i x y h1 h2
    cases hg
    exact .inr ⟨x, y, q1.bl h1, q2.bl h2, k _ Hf H (Gr.refl e1) (Dp.bl _)⟩
  · cases hg
/-- in, not in: of a list or tuple of flat items -/
def flatD : PyData → Bool
  | .none => true
  | .bool _ => true
  | .int _ => true
  | .str _ => true
  | _ => false
def inD (x : PyData) (xs : List PyData) : Bool := xs.any fun y => PyData.eqv y x
theorem flat_of {K : PySem.W.Frag} {H : Hp} {v : V} {d : PyData} (h : Dp K H v d) (f : flatD d = true) : flatV v = true := by
  cases h <;> first | rfl | exact absurd (show false = true from f) Bool.false_ne_true
theorem flats_of {K : PySem.W.Frag} {H : Hp} : ∀ {vs : List V} {ds : List PyData}, DpAll K H vs ds → ds.all flatD = true → vs.all flatV = true
  | _, _, .nil, _ => rfl
  | _, _, .cons a t, f => by
    rw [List.all_cons, Bool.and_eq_true] at f ⊢
    exact ⟨flat_of a f.1, flats_of t f.2⟩
theorem eqV_of {K : PySem.W.Frag} {H : Hp} {v u : V} {d e : PyData} (h : Dp K H v d) (h' : Dp K H u e) (f : flatD d = true) (f' : flatD e = true) : eqV v u = PyData.eqv d e := by
  cases h <;> cases h' <;> first
    | rfl
    | exact absurd (show false = true from f) Bool.false_ne_true
    | exact absurd (show false = true from f') Bool.false_ne_true
    | (rename_i a b; cases a <;> rfl)
    | (rename_i a b; cases b <;> rfl)
    | (rename_i a b; cases a <;> cases b <;> rfl)
theorem inV_of {K : PySem.W.Frag} {H : Hp} {v : V} {d : PyData} (h : Dp K H v d) (f : flatD d = true) : ∀ {vs : List V} {ds : List PyData}, DpAll K H vs ds → ds.all flatD = true → inV v vs = inD d ds
  | _, _, .nil, _ => rfl
  | _, _, .cons a t, g => by
    rw [List.all_cons, Bool.and_eq_true] at g
    unfold inV inD
    rw [List.any_cons, List.any_cons, eqV_of a h g.1 f]
    have q := inV_of h f t g.2
    unfold inV inD at q
    rw [q]
def gIn (neg : Bool) : PyData → PyData → Option Res
  | x, .list ys => if flatD x = true ∧ ys.all flatD = true then some (.fz (.bool (if neg then !inD x ys else inD x ys))) else none
  | x, .tuple ys => if flatD x = true ∧ ys.all flatD = true then some (.fz (.bool (if neg then !inD x ys else inD x ys))) else none
  | _, _ => none
theorem o_in {K : PySem.W.Frag} {neg : Bool} : Op2 K (rIn K neg) (gIn neg) := fun B H0 Hf H v u a b c Q e1 e2 q1 q2 hg k => by
  unfold gIn at hg
  have d1 := q1.dp e1
  split at hg
  · rename_i ys h2
    split at hg
    · rename_i z
      cases hg
      obtain ⟨p, vs, rfl, s2, d2⟩ := q2.lst e1 h2
      refine ⟨p, vs, rfl, .inl s2, flat_of d1 z.1, flats_of d2 z.2, ?_⟩
      rw [inV_of d1 z.1 (dpa_mono e1 _ _ d2) z.2]
      exact k _ Hf H (Gr.refl e1) (Dp.bl _)
    · cases hg
  · rename_i ys h2
    split at hg
    · rename_i z
      cases hg
      obtain ⟨p, vs, rfl, s2, d2⟩ := q2.tup h2
      refine ⟨p, vs, rfl, .inr (sqt_mono e1 s2), flat_of d1 z.1, flats_of d2 z.2, ?_⟩
      rw [inV_of d1 z.1 (dpa_mono e1 _ _ d2) z.2]
      exact k _ Hf H (Gr.refl e1) (Dp.bl _)
    · cases hg
  · cases hg

/-! ### one operand -/
def Op1 (K : PySem.W.Frag) (r : V → Hp → VK → Prop) (g : PyData → Option Res) : Prop :=
  ∀ (B H0 Hf H : Hp) (v : V) (a c : Res) (Q : VK), Same Hf H → Same H0 H → RR K B H0 Hf H v a → g a.rd = some c → (∀ w Hf' H', Gr Hf H Hf' H' → RR K B H Hf' H' w c → Q w H') → r v H Q
def f1 (g : PyData → Option Res) (fa : FE) : FE := fun ρ => (fa ρ).bind fun a => g a.rd
theorem ent1 {K : PySem.W.Frag} {r : V → Hp → VK → Prop} {g : PyData → Option Res} (o : Op1 K r g) : ∀ σ H Q, tD K (f1 g fa) σ H Q → tUn r (tD K fa) σ H Q := fun σ H Q h => by
  obtain ⟨B, Hf, ρ, c, er, hf, k⟩ := h
  unfold f1 at hf
  obtain ⟨ra, h1, hf⟩ := Option.bind_eq_some_iff.mp hf
  exact ⟨B, Hf, ρ, ra, er, h1, fun v Hf1 H1 g1 q1 => o B H Hf1 H1 v ra c Q g1.fh g1.h q1 hf fun w Hf3 H3 g3 q3 => k w Hf3 H3 (g1.trans g3) (q3.back g1.h)⟩
def gNeg : PyData → Option Res
  | .int i => some (.fz (.int (-i)))
  | _ => none
theorem o_neg {K : PySem.W.Frag} : Op1 K (rU fun i => .int (-i)) gNeg := fun B H0 Hf H v a c Q e1 e2 q1 hg k => by
  unfold gNeg at hg
  split at hg
  · rename_i i h1
    cases hg
    exact ⟨i, q1.int h1, k _ Hf H (Gr.refl e1) (Dp.int _)⟩
  · cases hg
theorem d_neg (ha : DE X a fa) : DE X (.UnaryOp .USub a pos) (f1 gNeg fa) := pe_mono (pe_un un_neg ha) (ent1 o_neg)

/-! ### truth -/
def tru : PyData → Option Bool
  | .none => some false
  | .bool b => some b
  | .int i => some (i != 0)
  | .str x => if small x.length then some ((x.length : Int) != 0) else none
  | .list xs => some (!xs.isEmpty)
  | .tuple xs => some (!xs.isEmpty)
  | .dict _ => none
theorem emp_of {K : PySem.W.Frag} {H : Hp} {vs : List V} {ds : List PyData} (h : DpAll K H vs ds) : ds.isEmpty = vs.isEmpty := by
  cases h <;> rfl
theorem tru_of {K : PySem.W.Frag} {H : Hp} {v : V} {d : PyData} {b : Bool} (h : Dp K H v d) (t : tru d = some b) : TruV K v H b := by
  cases h with
  | non => cases t; rfl
  | bl x => cases t; rfl
  | int i => cases t; rfl
  | str x =>
    unfold tru at t
    simp only at t
    split at t
    · rename_i z; cases t; exact ⟨sm_line z, rfl⟩
    · cases t
  | lst hs ha =>
    cases t
    exact .inl ⟨_, hs, by rw [emp_of ha]⟩
  | tup hs ha =>
    cases t
    exact .inr (.inl ⟨_, hs, by rw [emp_of ha]⟩)
/-- any expression's truth, as a test -/
def fTru (f : FE) : Rho → Option Bool := fun ρ => (f ρ).bind fun r => tru r.rd
theorem t_tru (ha : DE X a fa) (he : ∀ whole, isTrue a X.env whole = (do let v ← whole; standAt a.pos; holding [v] (truthy v)) := by intro _; rfl) : DT X a (fTru fa) := pt_mono (pt_truth ha he) fun σ H Q h => by
  obtain ⟨B, Hf, ρ, c, er, hf, k⟩ := h
  obtain ⟨r, h1, h2⟩ := Option.bind_eq_some_iff.mp hf
  exact ⟨B, Hf, ρ, r, er, h1, fun v Hf' H' g' q => ⟨c, tru_of (q.dp g'.fh) h2, k Hf' H' g'⟩⟩
def tNotF (f : Rho → Option Bool) : Rho → Option Bool := fun ρ => (f ρ).map (!·)
theorem t_not {t : Rho → Option Bool} (ha : DT X a t) : DT X (.UnaryOp .Not a pos) (tNotF t) := pt_mono (pt_not ha) fun σ H Q h => by
  obtain ⟨B, Hf, ρ, c, er, hf, k⟩ := h
  unfold tNotF at hf
  obtain ⟨b, h1, h2⟩ := Option.map_eq_some_iff.mp hf
  subst h2
  exact ⟨B, Hf, ρ, b, er, h1, k⟩
abbrev DW (X : Cx) (e : Expr) (f : Rho → Option Bool) : Prop := PW X e (tDT X.K f)
theorem pw_mono {X : Cx} {e : Expr} {t t' : TT} (h : PW X e t) (k : ∀ σ H Q, t' σ H Q → t σ H Q) : PW X e t' := ⟨fun whole pins s σ H Q I q => h.run whole pins s σ H Q I (k _ _ _ q)⟩
def tAndF (f g : Rho → Option Bool) : Rho → Option Bool := fun ρ => (f ρ).bind fun a => if a = true then g ρ else some false
def tOrF (f g : Rho → Option Bool) : Rho → Option Bool := fun ρ => (f ρ).bind fun a => if a = true then some true else g ρ
variable {t u : Rho → Option Bool} {rest : List Expr}
theorem w_and1 (ha : DT X a t) : DW X (.BoolOp .And [a] pos) t := pw_and1 ha
theorem w_or1 (ha : DT X a t) : DW X (.BoolOp .Or [a] pos) t := pw_or1 ha
theorem w_and (ha : DT X a t) (hb : DW X (.BoolOp .And (b :: rest) pos) u) : DW X (.BoolOp .And (a :: b :: rest) pos) (tAndF t u) := pw_mono (pw_and ha hb) fun σ H Q h => by
  obtain ⟨B, Hf, ρ, c, er, hf, k⟩ := h
  unfold tAndF at hf
  obtain ⟨x, h1, h2⟩ := Option.bind_eq_some_iff.mp hf
  refine ⟨B, Hf, ρ, x, er, h1, fun Hf' H' g' => ?_⟩
  cases x with
  | true => exact ⟨B, Hf', ρ, c, er.grow g', h2, fun Hf2 H2 g2 => k _ _ (g'.trans g2)⟩
  | false => cases h2; exact k _ _ g'
theorem w_or (ha : DT X a t) (hb : DW X (.BoolOp .Or (b :: rest) pos) u) : DW X (.BoolOp .Or (a :: b :: rest) pos) (tOrF t u) := pw_mono (pw_or ha hb) fun σ H Q h => by
  obtain ⟨B, Hf, ρ, c, er, hf, k⟩ := h
  unfold tOrF at hf
  obtain ⟨x, h1, h2⟩ := Option.bind_eq_some_iff.mp hf
  refine ⟨B, Hf, ρ, x, er, h1, fun Hf' H' g' => ?_⟩
  cases x with
  | true => cases h2; exact k _ _ g'
  | false => exact ⟨B, Hf', ρ, c, er.grow g', h2, fun Hf2 H2 g2 => k _ _ (g'.trans g2)⟩
theorem t_bool (h : DW X a t) : DT X a t := h.pt
/-- and, or, not as values -/
def fAnd (fa fb : FE) : FE := fun ρ => (fa ρ).bind fun a => (tru a.rd).bind fun k => if k = true then fb ρ else some a
def fOr (fa fb : FE) : FE := fun ρ => (fa ρ).bind fun a => (tru a.rd).bind fun k => if k = true then some a else fb ρ
theorem d_one {op} (h : DE X a fa) : DE X (.BoolOp op [a] pos) fa := pe_one h
theorem d_and (ha : DE X a fa) (hb : DE X (.BoolOp .And (b :: rest) pos) fb) : DE X (.BoolOp .And (a :: b :: rest) pos) (fAnd fa fb) := pe_mono (pe_andT ha hb) fun σ H Q h => by
  obtain ⟨B, Hf, ρ, c, er, hf, k⟩ := h
  unfold fAnd at hf
  obtain ⟨x, h1, h2⟩ := Option.bind_eq_some_iff.mp hf
  obtain ⟨y, h3, h4⟩ := Option.bind_eq_some_iff.mp h2
  refine ⟨B, Hf, ρ, x, er, h1, fun v Hf' H' g' q => ⟨y, tru_of (q.dp g'.fh) h3, ?_⟩⟩
  cases y with
  | true => exact ⟨B, Hf', ρ, c, er.grow g', h4, fun w Hf2 H2 g2 q2 => k _ _ _ (g'.trans g2) (q2.back g'.h)⟩
  | false => cases h4; exact k _ _ _ g' q
theorem d_or (ha : DE X a fa) (hb : DE X (.BoolOp .Or (b :: rest) pos) fb) : DE X (.BoolOp .Or (a :: b :: rest) pos) (fOr fa fb) := pe_mono (pe_orT ha hb) fun σ H Q h => by
  obtain ⟨B, Hf, ρ, c, er, hf, k⟩ := h
  unfold fOr at hf
  obtain ⟨x, h1, h2⟩ := Option.bind_eq_some_iff.mp hf
  obtain ⟨y, h3, h4⟩ := Option.bind_eq_some_iff.mp h2
  refine ⟨B, Hf, ρ, x, er, h1, fun v Hf' H' g' q => ⟨y, tru_of (q.dp g'.fh) h3, ?_⟩⟩
  cases y with
  | true => cases h4; exact k _ _ _ g' q
  | false => exact ⟨B, Hf', ρ, c, er.grow g', h4, fun w Hf2 H2 g2 q2 => k _ _ _ (g'.trans g2) (q2.back g'.h)⟩
def fNot (fa : FE) : FE := fun ρ => (fa ρ).bind fun a => (tru a.rd).map fun k => .fz (.bool (!k))
theorem d_not (ha : DE X a fa) : DE X (.UnaryOp .Not a pos) (fNot fa) := pe_mono (pe_notT ha) fun σ H Q h => by
  obtain ⟨B, Hf, ρ, c, er, hf, k⟩ := h
  unfold fNot at hf
  obtain ⟨x, h1, h2⟩ := Option.bind_eq_some_iff.mp hf
  obtain ⟨y, h3, h4⟩ := Option.map_eq_some_iff.mp h2
  subst h4
  exact ⟨B, Hf, ρ, x, er, h1, fun v Hf' H' g' q => ⟨y, tru_of (q.dp g'.fh) h3, k _ _ _ g' (Dp.bl _)⟩⟩
def fIf (t : Rho → Option Bool) (fa fb : FE) : FE := fun ρ => (t ρ).bind fun k => if k = true then fa ρ else fb ρ
theorem d_if (hc : DT X c t) (ha : DE X a fa) (hb : DE X b fb) : DE X (.IfExp c a b pos) (fIf t fa fb) := pe_mono (pe_ifExp hc ha hb) fun σ H Q h => by
  obtain ⟨B, Hf, ρ, r, er, hf, k⟩ := h
  unfold fIf at hf
  obtain ⟨y, h3, h4⟩ := Option.bind_eq_some_iff.mp hf
  refine ⟨B, Hf, ρ, y, er, h3, fun Hf' H' g' => ?_⟩
  cases y with
  | true => exact ⟨B, Hf', ρ, r, er.grow g', h4, fun w Hf2 H2 g2 q2 => k _ _ _ (g'.trans g2) (q2.back g'.h)⟩
  | false => exact ⟨B, Hf', ρ, r, er.grow g', h4, fun w Hf2 H2 g2 q2 => k _ _ _ (g'.trans g2) (q2.back g'.h)⟩

/-! ### argument lists, displays -/
def aNil : FA := fun _ => some []
def aCons (f : FE) (g : FA) : FA := fun ρ => (f ρ).bind fun r => (g ρ).map fun rs => r :: rs
theorem RRs.grow {K : PySem.W.Frag} {B H0 Hf H Hf' H' : Hp} (g : Gr Hf H Hf' H') : ∀ {vs : List V} {rs : List Res}, RRs K B H0 Hf H vs rs → RRs K B H0 Hf' H' vs rs
  | _, _, .nil => .nil
  | _, _, .cons a t => .cons (a.grow g) (RRs.grow g t)
theorem RRs.back {K : PySem.W.Frag} {B H0 H1 Hf H : Hp} (s : Same H0 H1) : ∀ {vs : List V} {rs : List Res}, RRs K B H1 Hf H vs rs → RRs K B H0 Hf H vs rs
  | _, _, .nil => .nil
  | _, _, .cons a t => .cons (a.back s) (RRs.back s t)
theorem a_nil : DA X [] aNil := pa_mono pa_nil fun σ H Q h => by
  obtain ⟨B, Hf, ρ, r, er, hf, k⟩ := h
  cases hf
  exact k _ _ _ (Gr.refl er.fh) .nil
variable {fs : FA}
theorem a_cons (ha : DE X e fa) (hr : DA X es fs) (hs : starEach (e :: es) X.env = (false, eval e X.env) :: starEach es X.env := by rfl) : DA X (e :: es) (aCons fa fs) := pa_mono (pa_cons ha hr hs) fun σ H Q h => by
  obtain ⟨B, Hf, ρ, r, er, hf, k⟩ := h
  unfold aCons at hf
  obtain ⟨x, h1, h2⟩ := Option.bind_eq_some_iff.mp hf
  obtain ⟨y, h3, h4⟩ := Option.map_eq_some_iff.mp h2
  subst h4
  exact ⟨B, Hf, ρ, x, er, h1, fun v Hf' H' g' q => ⟨B, Hf', ρ, y, er.grow g', h3, fun vs Hf2 H2 g2 q2 => k _ _ _ (g'.trans g2) (.cons (q.grow g2) (q2.back g'.h))⟩⟩
/-- all made to stand still -/
def frs : List Res → Option (List PyData)
  | [] => some []
  | r :: rs => r.fr.bind fun x => (frs rs).map fun xs => x :: xs
theorem RRs.freeze {K : PySem.W.Frag} {B Hf H : Hp} {σ : L2.St} {ρ : Rho} (er : ER K B Hf H σ ρ) : ∀ {rs : List Res} {vs : List V} {xs : List PyData} {Hf' H' : Hp}, Gr Hf H Hf' H' → RRs K B H Hf' H' vs rs → frs rs = some xs → ∃ Hf2, Gr Hf H Hf2 H' ∧ Same Hf' Hf2 ∧ DpAll K Hf2 vs xs
  | [], _, _, Hf', H', g, .nil, h => by cases h; exact ⟨Hf', g, Same.refl _, .nil⟩
  | r :: rs, v :: vs, xs, Hf', H', g, .cons a t, h => by
    unfold frs at h
    obtain ⟨x, h1, h2⟩ := Option.bind_eq_some_iff.mp h
    obtain ⟨ys, h3, h4⟩ := Option.map_eq_some_iff.mp h2
    subst h4
    obtain ⟨Hf2, g2, s2, d2⟩ := RRs.freeze er g t h3
    cases r with
    | fz y => cases h1; exact ⟨Hf2, g2, s2, .cons (dp_mono s2 _ _ a) d2⟩
    | br y => cases h1
    | nw ys =>
      obtain ⟨p, ws, rfl, h0, n3, h5, h6⟩ := a
      cases h1
      by_cases z : Hf2 p = none
      · refine ⟨upd Hf2 p (.lst ws), ⟨g2.f.trans (same_upd z), g2.h, fun b o e => ?_, fun b o e n => ?_⟩, s2.trans (same_upd z), .cons (.lst (SqL.of upd_same) (dpa_mono (s2.trans (same_upd z)) _ _ h6)) (dpa_mono (same_upd z) _ _ d2)⟩
        · by_cases w : b = p
          · subst w; rw [upd_same] at e; cases e; exact h5
          · rw [upd_ne w] at e; exact g2.fh _ _ e
        · rw [upd_ne (ne_of_none e h0)]; exact g2.un b o e n
      · cases w : Hf2 p with
        | none => exact absurd w z
        | some o =>
          have e := g2.fh p o w
          rw [h5] at e
          cases e
          exact ⟨Hf2, g2, s2, .cons (.lst (SqL.of w) (dpa_mono s2 _ _ h6)) d2⟩
def fTup (fs : FA) : FE := fun ρ => (fs ρ).bind fun rs => (frs rs).bind fun xs => if small xs.length then some (.fz (.tuple xs)) else none
def fLst (fs : FA) : FE := fun ρ => (fs ρ).bind fun rs => (frs rs).bind fun xs => if small xs.length then some (.nw xs) else none
theorem d_tup {k} (h : DA X es fs) : DE X (.Tuple es k pos) (fTup fs) := pe_mono (pe_tup h) fun σ H Q h => by
  obtain ⟨B, Hf, ρ, r, er, hf, k⟩ := h
  unfold fTup at hf
  obtain ⟨rs, h1, h2⟩ := Option.bind_eq_some_iff.mp hf
  obtain ⟨xs, h3, h4⟩ := Option.bind_eq_some_iff.mp h2
  split at h4
  · rename_i hz
    cases h4
    refine ⟨B, Hf, ρ, rs, er, h1, fun vs Hf' H' g' q => ?_⟩
    obtain ⟨Hf2, g2, s2, d2⟩ := RRs.freeze er g' q h3
    refine ⟨by rw [dpa_len d2]; exact sm_line hz, fun p hp => ?_⟩
    have gn : Gr Hf2 H' (upd Hf2 p (.tup vs)) (upd H' p (.tup vs)) := Gr.new g2.fh hp
    exact k _ _ _ (g2.trans gn) (Dp.tup (SqT.of upd_same) (dpa_mono gn.f _ _ d2))
  · cases h4
theorem d_lst (h : DA X es fs) : DE X (.List es pos) (fLst fs) := pe_mono (pe_lst h) fun σ H Q h => by
  obtain ⟨B, Hf, ρ, r, er, hf, k⟩ := h
  unfold fLst at hf
  obtain ⟨rs, h1, h2⟩ := Option.bind_eq_some_iff.mp hf
  obtain ⟨xs, h3, h4⟩ := Option.bind_eq_some_iff.mp h2
  split at h4
  · rename_i hz
    cases h4
    refine ⟨B, Hf, ρ, rs, er, h1, fun vs Hf' H' g' q => ?_⟩
    obtain ⟨Hf2, g2, s2, d2⟩ := RRs.freeze er g' q h3
    refine ⟨by rw [dpa_len d2]; exact sm_line hz, fun p hp => ?_⟩
    have gn : Gr Hf2 H' Hf2 (upd H' p (.lst vs)) := Gr.newU g2.fh hp
    exact k _ _ _ (g2.trans gn) ⟨p, vs, rfl, g2.h.free hp, g2.fh.free hp, upd_same, d2⟩
  · cases h4
end
end DL
/-! t[::-1] -/
namespace DL
open PySem PySem.Spec PyProof.Rows L2 HT
section
variable {prog : Program} {w : World} {A : Around} {E : Value → Shared → Prop} {s : Shared}
theorem sliceApplied_rev {sl : Addr} {vl vu vs : Value} {n : Nat} {Q : Int × Int × Nat → Shared → Prop} (hs : s.heap.IsSliceOf sl vl vu vs) (pl : IsPart vl none) (pu : IsPart vu none) (ps : IsPart vs (some (-1)))
    (h : Q ((n : Int) - 1, -1, n) s) : wpAny (model prog w) A (Builtin.Slice.sliceApplied (.ref sl) (pure (n : Int))) Q E s := by
  obtain ⟨os, hos, hcs, hds⟩ := id hs
  unfold Builtin.Slice.sliceApplied Builtin.Slice.sliceFields
  refine wpAny_bind (wpAny_bind (wpAny_field hos hds (x := vl) rfl (wpAny_bind (wpAny_field hos hds (x := vu) rfl (wpAny_bind (wpAny_field hos hds (x := vs) rfl (wpAny_pure ?_)))))))
  refine wpAny_bind (slicePart_ ps ?_)
  show wpAny _ _ (if ((-1 : Int) == 0) = true then _ else _) _ _ s
  rw [if_neg (by decide)]
  refine wpAny_bind (slicePart_ pl (wpAny_bind (slicePart_ pu (wpAny_bind (wpAny_pure ?_)))))
  show wpAny _ _ (match Builtin.Slice.sliceAdjust none none (-1) (n : Int) with | (lo, hi) => pure (lo, (-1 : Int), Builtin.Slice.slicePlaces lo hi (-1))) _ _ s
  have e : Builtin.Slice.sliceAdjust none none (-1) (n : Int) = ((n : Int) - 1, -1) := by
    unfold Builtin.Slice.sliceAdjust
    simp
  rw [e]
  have e2 : Builtin.Slice.slicePlaces ((n : Int) - 1) (-1) (-1) = n := by
    unfold Builtin.Slice.slicePlaces
    have h1 : ¬ ((-1 : Int) > 0) := by omega
    simp only [h1, if_false, Int.neg_neg, Int.ediv_one]
    split <;> omega
  show wpAny _ _ (pure ((n : Int) - 1, (-1 : Int), Builtin.Slice.slicePlaces ((n : Int) - 1) (-1) (-1))) _ _ s
  rw [e2]
  exact wpAny_pure h
theorem fmap_congr {α β : Type} {f g : α → Option β} : ∀ {l : List α}, (∀ m ∈ l, f m = g m) → l.filterMap f = l.filterMap g
  | [], _ => rfl
  | a :: t, h => by
    rw [List.filterMap_cons, List.filterMap_cons, h a List.mem_cons_self, fmap_congr fun m hm => h m (List.mem_cons_of_mem _ hm)]
theorem pick_rev (xs : Array Value) : ((List.range xs.size).filterMap fun (m : Nat) => xs[(((xs.size : Nat) : Int) - 1 + (m : Int) * (-1)).toNat]?).toArray = xs.toList.reverse.toArray := by
  congr 1
  have key : ∀ m ∈ List.range xs.size, xs[(((xs.size : Nat) : Int) - 1 + (m : Int) * (-1)).toNat]? = (fun m => xs.toList.reverse[m]?) m := fun m hm => by
    have hm' : m < xs.size := List.mem_range.mp hm
    have e : (((xs.size : Nat) : Int) - 1 + (m : Int) * (-1)).toNat = xs.size - 1 - m := by omega
    rw [e]
    show _ = xs.toList.reverse[m]?
    rw [List.getElem?_reverse (by simpa using hm'), Array.length_toList, Array.getElem?_toList]
  rw [fmap_congr key]
  have := pick_run xs.toList.reverse.toArray 0 xs.size
  simp only [Nat.zero_add] at this
  have e3 : List.filterMap (fun m => xs.toList.reverse[m]?) (List.range xs.size) = xs.toList.reverse := by
    have hl : xs.size = xs.toList.reverse.length := by simp
    rw [hl]
    generalize xs.toList.reverse = l
    induction l with
    | nil => rfl
    | cons a t ih =>
      rw [List.length_cons, List.range_succ_eq_map, List.filterMap_cons]
      simp only [List.getElem?_cons_zero, List.filterMap_map]
      congr 1
  exact e3
theorem getItem_tuple_rev {t sl : Addr} {items : Array Value} {vl vu vs : Value} {Q : Value → Shared → Prop} (ht : IsTup s.heap t items) (hs : s.heap.IsSliceOf sl vl vu vs) (pl : IsPart vl none) (pu : IsPart vu none) (ps : IsPart vs (some (-1)))
    (h : Q (.ref s.heap.objs.size) { s with heap := s.heap.push { cls := .type "tuple", data := .seq items.toList.reverse.toArray } })
    (hsz : items.size ≤ sizeLine) : wpAny (model prog w) A (getItem (.ref t) (.ref sl)) Q E s := by
  have htake : sizeOk (.seq items.toList.reverse.toArray) := by
    show items.toList.reverse.toArray.size ≤ sizeLine
    simpa using hsz
  obtain ⟨os, hos, hcs, hds⟩ := id hs
  have hTs : s.TypeIs (.ref sl) "slice" := ⟨os, hos, hcs⟩
  unfold getItem
  try with_reducible refine wpAny_holding ?_
  first | refine wpAny_bind (wpAny_pure ?_) | skip
  refine wpAny_bind (wpAny_sequenceKey ht.typeIs (by decide) ?_)
  refine wpAny_bind (wpAny_callSpecial?_slot (name := Str.ofString "__getitem__") ht.typeIs PyProof.Rows.slot_tuple_getitem
    (wpAny_call_entry PyProof.Rows.slot_tuple_getitem ht.typeIs entry_tuple_getitem ?_ (args_tuple_getitem _ _)))
  show wpAny _ _ (Builtin.Tuple.tupleItemsOf (.ref t) >>= _) _ _ s
  refine wpAny_bind (tupleItemsOf_ ht ?_)
  refine wpAny_bind (wpAny_typeOf hTs ?_)
  rw [if_pos (by decide)]
  refine wpAny_bind (sliceApplied_rev hs pl pu ps ?_)
  have hno : ¬ ((((items.size : Nat) : Int) - 1 == 0 && (-1 : Int) == 1 && items.size == items.size) = true) := by
    intro q
    rw [Bool.and_eq_true, Bool.and_eq_true] at q
    exact absurd q.1.2 (by decide)
  show wpAny _ _ (if (((items.size : Nat) : Int) - 1 == 0 && (-1 : Int) == 1 && items.size == items.size) = true then _ else _) _ _ s
  rw [if_neg hno, pick_rev]
  first
    | exact wpAny_bind (m := Builtin.Tuple.tupleExact _) (wpAny_newObj_type (wpAny_pure ⟨_, rfl, wpAny_pure h⟩) htake)
    | exact wpAny_bind (m := Builtin.Tuple.tupleExact _) (wpAny_newObj_type (wpAny_bind (wpAny_pure (wpAny_pure ⟨_, rfl, wpAny_pure h⟩))) htake)
    | exact wpAny_bind (wpAny_bind (m := Builtin.Tuple.tupleExact _) (wpAny_newObj_type (wpAny_pure (wpAny_pure ⟨_, rfl, wpAny_pure h⟩)) htake))
    | exact wpAny_bind (wpAny_bind (m := Builtin.Tuple.tupleExact _) (wpAny_newObj_type (wpAny_pure ⟨_, rfl, wpAny_pure h⟩) htake))
end
/-- xs[::-1]: of a list or a tuple -/
def tRevA (K : PySem.W.Frag) (te : TE) : TE := fun σ H Q => te σ H fun x H1 => ∃ a xs, x = .ref a ∧ ((SqL K H1 a xs ∧ ∀ p, H1 p = none → Q (.ref p) (upd H1 p (.lst xs.reverse))) ∨ (SqT K H1 a xs ∧ ∀ p, H1 p = none → Q (.ref p) (upd H1 p (.tup xs.reverse))))
theorem pe_revA {X : Cx} {e : Expr} {te : TE} {k : Nat} {p1 p2 p3 pos : Pos} (he : PE X e te) : PE X (.Subscript e (.Slice none none (some (.UnaryOp .USub (.Constant (.int 1) k p1) p2)) p3) pos) (tRevA X.K te) := by
  refine ⟨fun pins s σ H Q I h => ?_⟩
  refine Subscript_ (thn (he.run pins s σ H _ I h) fun v s1 ⟨x, H1, I1, r1, q1⟩ => ?_)
  obtain ⟨a, xs, ex, hx⟩ := q1
  subst ex
  cases r1
  have hst : PO X (some (.UnaryOp .USub (.Constant (.int 1) k p1) p2)) (tPart (tUn (rU fun i => .int (-i)) (tC (.int 1)))) := po_some (pe_un un_neg pe_int)
  refine wpAny_Slice (thn (po_none.run pins s1 σ H1 (fun o H2 => o = none ∧ H2 = H1) I1 ⟨rfl, rfl⟩) fun vl s2 ⟨l, H2, I2, pl, el, e2⟩ => ?_)
  subst el e2
  refine thn (po_none.run pins s2 σ H2 (fun o H3 => o = none ∧ H3 = H2) I2 ⟨rfl, rfl⟩) fun vu s3 ⟨u, H3, I3, pu, eu, e3⟩ => ?_
  subst eu e3
  refine thn (hst.run pins s3 σ H3 (fun o H4 => o = some (-1) ∧ H4 = H3) I3 ⟨1, rfl, -1, rfl, rfl, rfl⟩) fun vs s4 ⟨o, H4, I4, ps, eo, e4⟩ => ?_
  subst eo e4
  have I5 : Inv X pins σ H4 { s4 with heap := s4.heap.push { cls := .type "slice", data := .fields #[vl, vu, vs] } } := I4.kept (t' := s4.toks) fun b ob q => Heap.get?_push_of_some _ q
  show wpAny (model X.prog X.w) X.A (subscriptTail e (.Slice none none (some (.UnaryOp .USub (.Constant (.int 1) k p1) p2)) p3) (.ref a) (.ref s4.heap.objs.size)) (EP X pins σ Q) X.xe { s4 with heap := s4.heap.push { cls := .type "slice", data := .fields #[vl, vu, vs] } }
  rcases hx with ⟨hx, q⟩ | ⟨hx, q⟩
  · obtain ⟨its, r, ht, hz⟩ := I5.list hx
    have hlen := r.length
    refine tail_any (ops := [.ref a, .ref s4.heap.objs.size]) ht.isList.typeIs (PySem.slot_list_getitem.lookup) ?_ (by with_unfolding_all rfl)
    refine wpAny_getItem_list_slice ht.isList (Heap.IsSliceOf.new _ vl vu vs) pl pu ps (by decide) ?_ (by rw [List.size_toArray]; omega)
    rw [PySem.W.krv_pick]
    refine ⟨.ref _, _, I5.laid (t' := s4.toks) (o := .lst xs.reverse) (fun b ob q => Heap.get?_push_of_some _ q) (Nat.le_refl _) ?_, rfl, q _ (I5.hok.fresh (Nat.le_refl _))⟩
    exact ⟨by rw [List.length_reverse]; exact hz, _, 0, r.reverse, Heap.get?_push_size _ rfl⟩
  · obtain ⟨its, r, ht, hz⟩ := I5.tuple hx
    have hlen := r.length
    refine tail_any (ops := [.ref a, .ref s4.heap.objs.size]) ht.typeIs PyProof.Rows.slot_tuple_getitem.lookup ?_ (by with_unfolding_all rfl)
    refine getItem_tuple_rev ht (Heap.IsSliceOf.new _ vl vu vs) pl pu ps ?_ (by rw [List.size_toArray]; omega)
    refine ⟨.ref _, _, I5.laid (t' := s4.toks) (o := .tup xs.reverse) (fun b ob q => Heap.get?_push_of_some _ q) (Nat.le_refl _) ?_, rfl, q _ (I5.hok.fresh (Nat.le_refl _))⟩
    exact ⟨by rw [List.length_reverse]; exact hz, _, r.reverse, IsTup.new _ _⟩
end DL
namespace DL
open PySem PySem.Spec PyProof.Rows L2
section
variable {X : Cx} {a b c e : Expr} {es : List Expr} {fa fb fc : FE} {fs : FA} {pos : Pos}

/-! ### subscripts -/
def gIx : PyData → PyData → Option Res
  | .list xs, .int i => (atI xs i).map .fz
  | .tuple xs, .int i => (atI xs i).map .fz
  | .str z, .int i => if small z.length then (atI z.cps.toList i).map fun c => .fz (.str ⟨#[c]⟩) else none
  | _, _ => none
theorem dpa_atI {K : PySem.W.Frag} {H : Hp} {vs : List V} {ds : List PyData} {i : Int} {d : PyData} (h : DpAll K H vs ds) (e : atI ds i = some d) : ∃ v, atI vs i = some v ∧ Dp K H v d := by
  unfold atI at e ⊢
  rw [dpa_len h]
  obtain ⟨j, h1, h2⟩ := Option.bind_eq_some_iff.mp e
  rw [h1]
  exact dpa_get h h2
theorem o_ix {K : PySem.W.Frag} : Op2 K (rIx K) gIx := fun B H0 Hf H v u a b c Q e1 e2 q1 q2 hg k => by
  unfold gIx at hg
  split at hg
  · rename_i xs i h1 h2
    obtain ⟨d, h3, h4⟩ := Option.map_eq_some_iff.mp hg
    subst h4
    obtain ⟨p, vs, rfl, s1, d1⟩ := q1.lst e1 h1
    obtain ⟨w, h5, h6⟩ := dpa_atI d1 h3
    exact .inl ⟨p, vs, i, w, rfl, q2.int h2, s1, h5, k _ Hf H (Gr.refl e1) h6⟩
  · rename_i xs i h1 h2
    obtain ⟨d, h3, h4⟩ := Option.map_eq_some_iff.mp hg
    subst h4
    obtain ⟨p, vs, rfl, s1, d1⟩ := q1.tup h1
    obtain ⟨w, h5, h6⟩ := dpa_atI d1 h3
    exact .inr (.inl ⟨p, vs, i, w, rfl, q2.int h2, sqt_mono e1 s1, h5, k _ Hf H (Gr.refl e1) h6⟩)
  · rename_i z i h1 h2
    split at hg
    · rename_i hz
      obtain ⟨d, h3, h4⟩ := Option.map_eq_some_iff.mp hg
      subst h4
      exact .inr (.inr ⟨z, i, d, q1.str h1, q2.int h2, sm_line hz, h3, k _ Hf H (Gr.refl e1) (Dp.str _)⟩)
    · cases hg
  · cases hg
theorem d_ix (ha : DE X a fa) (hb : DE X b fb) (hs : PlainIx b := by intro _ _; rfl) : DE X (.Subscript a b pos) (f2 gIx fa fb) := pe_mono (pe_ix ix_seq ha hb hs) (ent2 o_ix)

/-! ### slices -/
def tDO (K : PySem.W.Frag) (f : Rho → Option (Option Int)) : TO := fun σ H Q => ∃ B Hf ρ o, ER K B Hf H σ ρ ∧ f ρ = some o ∧ ∀ Hf' H', Gr Hf H Hf' H' → Q o H'
abbrev DO (X : Cx) (e : Option Expr) (f : Rho → Option (Option Int)) : Prop := PO X e (tDO X.K f)
theorem po_mono {X : Cx} {e : Option Expr} {t t' : TO} (h : PO X e t) (k : ∀ σ H Q, t' σ H Q → t σ H Q) : PO X e t' := ⟨fun pins s σ H Q I q => h.run pins s σ H Q I (k _ _ _ q)⟩
def oNone : Rho → Option (Option Int) := fun _ => some none
def oSome (f : FE) : Rho → Option (Option Int) := fun ρ => (f ρ).bind fun r => match r.rd with
  | .int i => some (some i)
  | _ => none
theorem p_none : DO X none oNone := po_mono po_none fun σ H Q h => by
  obtain ⟨B, Hf, ρ, o, er, hf, k⟩ := h
  cases hf
  exact k _ _ (Gr.refl er.fh)
theorem p_some (ha : DE X e fa) : DO X (some e) (oSome fa) := po_mono (po_some ha) fun σ H Q h => by
  obtain ⟨B, Hf, ρ, o, er, hf, k⟩ := h
  unfold oSome at hf
  obtain ⟨r, h1, h2⟩ := Option.bind_eq_some_iff.mp hf
  split at h2
  · rename_i i hi
    cases h2
    exact ⟨B, Hf, ρ, r, er, h1, fun v Hf' H' g' q => ⟨i, q.int hi, k _ _ g'⟩⟩
  · cases h2
def cutD {α : Type} (xs : List α) (lo hi : Option Int) : List α := (xs.drop (HT.sIx xs.length 0 lo)).take (HT.sIx xs.length xs.length hi - HT.sIx xs.length 0 lo)
theorem dpa_cut {K : PySem.W.Frag} {H : Hp} {vs : List V} {ds : List PyData} (h : DpAll K H vs ds) (lo hi : Option Int) : DpAll K H (cutV vs lo hi) (cutD ds lo hi) := by
  unfold cutV cutD
  rw [dpa_len h]
  exact dpa_take _ (dpa_drop _ h)
def rSlX (K : PySem.W.Frag) : V → Option Int → Option Int → Hp → VK → Prop := fun x lo hi H Q => rSlL K x lo hi H Q ∨ (rSlA K x lo hi H Q ∨ rSlS x lo hi H Q)
theorem sl_any : SlR X (rSlX X.K) := sl_list.or (sl_tupA.or sl_str)
def gSl (d : PyData) (lo hi : Option Int) : Option Res := match d with
  | .list xs => some (.nw (cutD xs lo hi))
  | .tuple xs => some (.fz (.tuple (cutD xs lo hi)))
  | .str z => if small z.length then some (.fz (.str (cutS z lo hi))) else none
  | _ => none
def fSl (fa : FE) (o1 o2 : Rho → Option (Option Int)) : FE := fun ρ => (fa ρ).bind fun a => (o1 ρ).bind fun lo => (o2 ρ).bind fun hi => gSl a.rd lo hi
variable {o1 o2 : Rho → Option (Option Int)} {lo hi : Option Expr} {p2 : Pos}
theorem cut_whole {α : Type} (xs : List α) (l h : Option Int) (w : HT.sIx xs.length 0 l = 0 ∧ HT.sIx xs.length xs.length h = xs.length) : cutD xs l h = xs := by
  unfold cutD
  rw [w.1, w.2, List.drop_zero, Nat.sub_zero, List.take_length]
theorem d_sl (ha : DE X e fa) (hl : DO X lo o1) (hu : DO X hi o2) : DE X (.Subscript e (.Slice lo hi none p2) pos) (fSl fa o1 o2) := pe_mono (pe_slice sl_any ha hl hu) fun σ H Q h => by
  obtain ⟨B, Hf, ρ, r, er, hf, k⟩ := h
  unfold fSl at hf
  obtain ⟨ra, h1, hf⟩ := Option.bind_eq_some_iff.mp hf
  obtain ⟨l, h2, hf⟩ := Option.bind_eq_some_iff.mp hf
  obtain ⟨u, h3, hf⟩ := Option.bind_eq_some_iff.mp hf
  refine ⟨B, Hf, ρ, ra, er, h1, fun v Hf1 H1 g1 q1 => ⟨B, Hf1, ρ, l, er.grow g1, h2, fun Hf2 H2 g2 => ⟨B, Hf2, ρ, u, (er.grow g1).grow g2, h3, fun Hf3 H3 g3 => ?_⟩⟩⟩
  have g := (g1.trans g2).trans g3
  have q3 := q1.grow (g2.trans g3)
  have e1 := g.fh
  unfold gSl at hf
  split at hf
  · rename_i xs hx
    cases hf
    obtain ⟨p, vs, rfl, s1, d1⟩ := q3.lst e1 hx
    refine .inl ⟨p, vs, rfl, s1, fun n hn => ?_⟩
    exact k _ _ _ (g.trans (Gr.newU e1 hn)) ⟨n, _, rfl, g.h.free hn, e1.free hn, upd_same, dpa_cut d1 _ _⟩
  · rename_i xs hx
    cases hf
    obtain ⟨p, vs, rfl, s1, d1⟩ := q3.tup hx
    refine .inr (.inl ⟨p, vs, rfl, sqt_mono e1 s1, fun w => ?_, fun w n hn => ?_⟩)
    · rw [dpa_len d1] at w
      rw [cut_whole xs l u w] at k
      exact k _ _ _ g (Dp.tup s1 d1)
    · have gn := Gr.new (o := .tup (cutV vs l u)) e1 hn
      exact k _ _ _ (g.trans gn) (Dp.tup (SqT.of upd_same) (dpa_mono gn.f _ _ (dpa_cut d1 _ _)))
  · rename_i z hx
    split at hf
    · rename_i hz
      cases hf
      exact .inr (.inr ⟨z, q3.str hx, sm_line hz, k _ _ _ g (Dp.str _)⟩)
    · cases hf
  · cases hf
theorem dpa_rev {K : PySem.W.Frag} {H : Hp} : ∀ {vs : List V} {ds : List PyData}, DpAll K H vs ds → DpAll K H vs.reverse ds.reverse
  | _, _, .nil => .nil
  | _, _, .cons a t => by
    rw [List.reverse_cons, List.reverse_cons]
    exact dpa_app (dpa_rev t) (.cons a .nil)
def gRev : PyData → Option Res
  | .list xs => some (.nw xs.reverse)
  | .tuple xs => some (.fz (.tuple xs.reverse))
  | _ => none
theorem d_rev {k : Nat} {p1 p2 p3 : Pos} (ha : DE X e fa) : DE X (.Subscript e (.Slice none none (some (.UnaryOp .USub (.Constant (.int 1) k p1) p2)) p3) pos) (f1 gRev fa) := pe_mono (pe_revA ha) fun σ H Q h => by
  obtain ⟨B, Hf, ρ, r, er, hf, k⟩ := h
  unfold f1 at hf
  obtain ⟨ra, h1, hf⟩ := Option.bind_eq_some_iff.mp hf
  refine ⟨B, Hf, ρ, ra, er, h1, fun v Hf1 H1 g q => ?_⟩
  have e1 := g.fh
  unfold gRev at hf
  split at hf
  · rename_i xs hx
    cases hf
    obtain ⟨p, vs, rfl, s1, d1⟩ := q.lst e1 hx
    refine ⟨p, vs, rfl, .inl ⟨s1, fun n hn => ?_⟩⟩
    exact k _ _ _ (g.trans (Gr.newU e1 hn)) ⟨n, _, rfl, g.h.free hn, e1.free hn, upd_same, dpa_rev d1⟩
  · rename_i xs hx
    cases hf
    obtain ⟨p, vs, rfl, s1, d1⟩ := q.tup hx
    refine ⟨p, vs, rfl, .inr ⟨sqt_mono e1 s1, fun n hn => ?_⟩⟩
    have gn := Gr.new (o := .tup vs.reverse) e1 hn
    exact k _ _ _ (g.trans gn) (Dp.tup (SqT.of upd_same) (dpa_mono gn.f _ _ (dpa_rev d1)))
  · cases hf

/-! ### calls of built-ins -/
def OpC (K : PySem.W.Frag) (r : List V → Hp → VK → Prop) (g : List PyData → Option Res) : Prop :=
  ∀ (B H0 Hf H : Hp) (vs : List V) (rs : List Res) (c : Res) (Q : VK), Same Hf H → Same H0 H → RRs K B H0 Hf H vs rs → g (rs.map Res.rd) = some c →
    (∀ w Hf' H', Gr Hf H Hf' H' → RR K B H Hf' H' w c → Q w H') → r vs H Q
def fC1 (g : List PyData → Option Res) (fs : FA) : FE := fun ρ => (fs ρ).bind fun rs => g (rs.map Res.rd)
theorem entC {K : PySem.W.Frag} {r : List V → Hp → VK → Prop} {g : List PyData → Option Res} (o : OpC K r g) : ∀ σ H Q, tD K (fC1 g fs) σ H Q → tCB r (tDA K fs) σ H Q := fun σ H Q h => by
  obtain ⟨B, Hf, ρ, c, er, hf, k⟩ := h
  unfold fC1 at hf
  obtain ⟨rs, h1, hf⟩ := Option.bind_eq_some_iff.mp hf
  exact ⟨B, Hf, ρ, rs, er, h1, fun vs Hf1 H1 g1 q1 => o B H Hf1 H1 vs rs c Q g1.fh g1.h q1 hf fun w Hf3 H3 g3 q3 => k w Hf3 H3 (g1.trans g3) (q3.back g1.h)⟩
theorem RRs.one {K : PySem.W.Frag} {B H0 Hf H : Hp} {vs : List V} {rs : List Res} {x : PyData} (q : RRs K B H0 Hf H vs rs) (h : rs.map Res.rd = [x]) : ∃ v r, vs = [v] ∧ rs = [r] ∧ r.rd = x ∧ RR K B H0 Hf H v r := by
  cases q with
  | nil => cases h
  | cons a t =>
    cases t with
    | nil => cases h; exact ⟨_, _, rfl, rfl, rfl, a⟩
    | cons b u => cases h
theorem RRs.two {K : PySem.W.Frag} {B H0 Hf H : Hp} {vs : List V} {rs : List Res} {x y : PyData} (q : RRs K B H0 Hf H vs rs) (h : rs.map Res.rd = [x, y]) : ∃ v r w s, vs = [v, w] ∧ rs = [r, s] ∧ r.rd = x ∧ s.rd = y ∧ RR K B H0 Hf H v r ∧ RR K B H0 Hf H w s := by
  cases q with
  | nil => cases h
  | cons a t =>
    cases t with
    | nil => cases h
    | cons b u =>
      cases u with
      | nil => cases h; exact ⟨_, _, _, _, rfl, rfl, rfl, rfl, a, b⟩
      | cons c z => cases h
/-- len -/
def gLen : List PyData → Option Res
  | [.list xs] => some (.fz (.int xs.length))
  | [.tuple xs] => some (.fz (.int xs.length))
  | [.str x] => if small x.length then some (.fz (.int x.length)) else none
  | _ => none
theorem c_len {K : PySem.W.Frag} : OpC K (fun xs H Q => ∃ x n, xs = [x] ∧ LenV K x H n ∧ Q (.int n) H) gLen := fun B H0 Hf H vs rs c Q e1 e2 q hg k => by
  unfold gLen at hg
  split at hg
  · rename_i xs h
    cases hg
    obtain ⟨v, r, rfl, rfl, hr, q1⟩ := q.one h
    obtain ⟨p, ws, rfl, s1, d1⟩ := q1.lst e1 hr
    exact ⟨_, xs.length, rfl, .inl ⟨ws, s1, (dpa_len d1).symm⟩, k _ Hf H (Gr.refl e1) (Dp.int _)⟩
  · rename_i xs h
    cases hg
    obtain ⟨v, r, rfl, rfl, hr, q1⟩ := q.one h
    obtain ⟨p, ws, rfl, s1, d1⟩ := q1.tup hr
    exact ⟨_, xs.length, rfl, .inr ⟨ws, sqt_mono e1 s1, (dpa_len d1).symm⟩, k _ Hf H (Gr.refl e1) (Dp.int _)⟩
  · rename_i x h
    split at hg
    · rename_i hz
      cases hg
      obtain ⟨v, r, rfl, rfl, hr, q1⟩ := q.one h
      cases q1.str hr
      exact ⟨_, x.length, rfl, ⟨sm_line hz, rfl⟩, k _ Hf H (Gr.refl e1) (Dp.int _)⟩
    · cases hg
  · cases hg
def gAbs : List PyData → Option Res
  | [.int i] => some (.fz (.int (if i < 0 then -i else i)))
  | _ => none
theorem c_abs {K : PySem.W.Frag} : OpC K (fun xs H Q => ∃ i, xs = [.int i] ∧ Q (.int (if i < 0 then -i else i)) H) gAbs := fun B H0 Hf H vs rs c Q e1 e2 q hg k => by
  unfold gAbs at hg
  split at hg
  · rename_i i h
    cases hg
    obtain ⟨v, r, rfl, rfl, hr, q1⟩ := q.one h
    cases q1.int hr
    exact ⟨i, rfl, k _ Hf H (Gr.refl e1) (Dp.int _)⟩
  · cases hg
def gInt : List PyData → Option Res
  | [.int i] => some (.fz (.int i))
  | [.bool b] => some (.fz (.int (if b then 1 else 0)))
  | _ => none
theorem c_int {K : PySem.W.Frag} : OpC K (fun xs H Q => (∃ i, xs = [.int i] ∧ Q (.int i) H) ∨ ∃ k, xs = [.bl k] ∧ Q (.int (if k then 1 else 0)) H) gInt := fun B H0 Hf H vs rs c Q e1 e2 q hg k => by
  unfold gInt at hg
  split at hg
  · rename_i i h
    cases hg
    obtain ⟨v, r, rfl, rfl, hr, q1⟩ := q.one h
    cases q1.int hr
    exact .inl ⟨i, rfl, k _ Hf H (Gr.refl e1) (Dp.int _)⟩
  · rename_i b h
    cases hg
    obtain ⟨v, r, rfl, rfl, hr, q1⟩ := q.one h
    cases q1.bl hr
    exact .inr ⟨b, rfl, k _ Hf H (Gr.refl e1) (Dp.int _)⟩
  · cases hg
def gTuple : List PyData → Option Res
  | [.list xs] => some (.fz (.tuple xs))
  | [.tuple xs] => some (.fz (.tuple xs))
  | _ => none
theorem c_tuple {K : PySem.W.Frag} : OpC K (fun xs H Q => ∃ p ys, xs = [.ref p] ∧ ((SqL K H p ys ∧ ∀ l, H l = none → Q (.ref l) (upd H l (.tup ys))) ∨ (SqT K H p ys ∧ Q (.ref p) H))) gTuple := fun B H0 Hf H vs rs c Q e1 e2 q hg k => by
  unfold gTuple at hg
  split at hg
  · rename_i xs h
    cases hg
    obtain ⟨v, r, rfl, rfl, hr, q1⟩ := q.one h
    obtain ⟨p, ws, rfl, s1, d1⟩ := q1.lst e1 hr
    refine ⟨p, ws, rfl, .inl ⟨s1, fun n hn => ?_⟩⟩
    have gn := Gr.new (o := .tup ws) e1 hn
    exact k _ _ _ gn (Dp.tup (SqT.of upd_same) (dpa_mono gn.f _ _ d1))
  · rename_i xs h
    cases hg
    obtain ⟨v, r, rfl, rfl, hr, q1⟩ := q.one h
    obtain ⟨p, ws, rfl, s1, d1⟩ := q1.tup hr
    exact ⟨p, ws, rfl, .inr ⟨sqt_mono e1 s1, k _ Hf H (Gr.refl e1) (Dp.tup s1 d1)⟩⟩
  · cases hg
def gList : List PyData → Option Res
  | [.list xs] => some (.nw xs)
  | [.tuple xs] => some (.nw xs)
  | _ => none
theorem c_list {K : PySem.W.Frag} : OpC K (fun xs H Q => ∃ p ys, xs = [.ref p] ∧ (SqL K H p ys ∨ SqT K H p ys) ∧ ∀ l, H l = none → Q (.ref l) (upd H l (.lst ys))) gList := fun B H0 Hf H vs rs c Q e1 e2 q hg k => by
  unfold gList at hg
  split at hg
  · rename_i xs h
    cases hg
    obtain ⟨v, r, rfl, rfl, hr, q1⟩ := q.one h
    obtain ⟨p, ws, rfl, s1, d1⟩ := q1.lst e1 hr
    refine ⟨p, ws, rfl, .inl s1, fun n hn => ?_⟩
    exact k _ _ _ (Gr.newU e1 hn) ⟨n, _, rfl, hn, e1.free hn, upd_same, d1⟩
  · rename_i xs h
    cases hg
    obtain ⟨v, r, rfl, rfl, hr, q1⟩ := q.one h
    obtain ⟨p, ws, rfl, s1, d1⟩ := q1.tup hr
    refine ⟨p, ws, rfl, .inr (sqt_mono e1 s1), fun n hn => ?_⟩
    exact k _ _ _ (Gr.newU e1 hn) ⟨n, _, rfl, hn, e1.free hn, upd_same, d1⟩
  · cases hg
/-- a list of ints as ints; of bools -/
def intsOf : List PyData → Option (List Int)
  | [] => some []
  | .int i :: r => (intsOf r).map (i :: ·)
  | _ :: _ => none
theorem intsOf_some : ∀ {ds : List PyData} {ns : List Int}, intsOf ds = some ns → ds = ns.map PyData.int
  | [], _, h => by cases h; rfl
  | .int i :: r, _, h => by
    obtain ⟨ms, h1, h2⟩ := Option.map_eq_some_iff.mp (show (intsOf r).map (i :: ·) = _ from h)
    subst h2
    rw [List.map_cons, ← intsOf_some h1]
  | .none :: _, _, h => by cases h
  | .bool _ :: _, _, h => by cases h
  | .str _ :: _, _, h => by cases h
  | .list _ :: _, _, h => by cases h
  | .tuple _ :: _, _, h => by cases h
  | .dict _ :: _, _, h => by cases h
theorem intsOf_map : ∀ ns : List Int, intsOf (ns.map PyData.int) = some ns
  | [] => rfl
  | n :: ns => by
    rw [List.map_cons]
    show (intsOf (ns.map PyData.int)).map (n :: ·) = _
    rw [intsOf_map ns]
    rfl
def boolsOf : List PyData → Option (List Bool)
  | [] => some []
  | .bool i :: r => (boolsOf r).map (i :: ·)
  | _ :: _ => none
theorem boolsOf_some : ∀ {ds : List PyData} {ns : List Bool}, boolsOf ds = some ns → ds = ns.map PyData.bool
  | [], _, h => by cases h; rfl
  | .bool i :: r, _, h => by
    obtain ⟨ms, h1, h2⟩ := Option.map_eq_some_iff.mp (show (boolsOf r).map (i :: ·) = _ from h)
    subst h2
    rw [List.map_cons, ← boolsOf_some h1]
  | .none :: _, _, h => by cases h
  | .int _ :: _, _, h => by cases h
  | .str _ :: _, _, h => by cases h
  | .list _ :: _, _, h => by cases h
  | .tuple _ :: _, _, h => by cases h
  | .dict _ :: _, _, h => by cases h
theorem boolsOf_map : ∀ ns : List Bool, boolsOf (ns.map PyData.bool) = some ns
  | [] => rfl
  | n :: ns => by
    rw [List.map_cons]
    show (boolsOf (ns.map PyData.bool)).map (n :: ·) = _
    rw [boolsOf_map ns]
    rfl
theorem dpa_bools' {K : PySem.W.Frag} {H : Hp} : ∀ {vs : List V} {ns : List Bool}, DpAll K H vs (ns.map PyData.bool) → vs = ns.map V.bl
  | _, [], h => by cases h; rfl
  | _, n :: ns, h => by
    cases h with
    | cons a t =>
      cases a
      rw [dpa_bools' t, List.map_cons]
/-- the lists of a call with one list of ints (bools) -/
theorem RRs.ints {K : PySem.W.Frag} {B H0 Hf H : Hp} {vs : List V} {rs : List Res} {xs : List PyData} {ns : List Int} (q : RRs K B H0 Hf H vs rs) (e1 : Same Hf H) (h : rs.map Res.rd = [.list xs]) (hi : intsOf xs = some ns) : ∃ a, vs = [.ref a] ∧ SqL K H a (ns.map V.int) := by
  obtain ⟨v, r, rfl, rfl, hr, q1⟩ := q.one h
  obtain ⟨p, ws, rfl, s1, d1⟩ := q1.lst e1 hr
  rw [intsOf_some hi] at d1
  rw [dpa_ints' d1] at s1
  exact ⟨p, rfl, s1⟩
theorem RRs.bools {K : PySem.W.Frag} {B H0 Hf H : Hp} {vs : List V} {rs : List Res} {xs : List PyData} {ns : List Bool} (q : RRs K B H0 Hf H vs rs) (e1 : Same Hf H) (h : rs.map Res.rd = [.list xs]) (hi : boolsOf xs = some ns) : ∃ a, vs = [.ref a] ∧ SqL K H a (ns.map V.bl) := by
  obtain ⟨v, r, rfl, rfl, hr, q1⟩ := q.one h
  obtain ⟨p, ws, rfl, s1, d1⟩ := q1.lst e1 hr
  rw [boolsOf_some hi] at d1
  rw [dpa_bools' d1] at s1
  exact ⟨p, rfl, s1⟩
def gSum : List PyData → Option Res
  | [.list xs] => (intsOf xs).map fun ns => .fz (.int ns.sum)
  | _ => none
theorem c_sum {K : PySem.W.Frag} : OpC K (rSum K) gSum := fun B H0 Hf H vs rs c Q e1 e2 q hg k => by
  unfold gSum at hg
  split at hg
  · rename_i xs h
    obtain ⟨ns, h1, h2⟩ := Option.map_eq_some_iff.mp hg
    subst h2
    obtain ⟨a, rfl, s⟩ := q.ints e1 h h1
    exact ⟨a, ns, rfl, s, k _ Hf H (Gr.refl e1) (Dp.int _)⟩
  · cases hg
def gAll : List PyData → Option Res
  | [.list xs] => (boolsOf xs).map fun ns => .fz (.bool (ns.all id))
  | _ => none
theorem c_all {K : PySem.W.Frag} : OpC K (rAll K) gAll := fun B H0 Hf H vs rs c Q e1 e2 q hg k => by
  unfold gAll at hg
  split at hg
  · rename_i xs h
    obtain ⟨ns, h1, h2⟩ := Option.map_eq_some_iff.mp hg
    subst h2
    obtain ⟨a, rfl, s⟩ := q.bools e1 h h1
    exact ⟨a, ns, rfl, s, k _ Hf H (Gr.refl e1) (Dp.bl _)⟩
  · cases hg
def gAny : List PyData → Option Res
  | [.list xs] => (boolsOf xs).map fun ns => .fz (.bool (ns.any id))
  | _ => none
theorem c_any {K : PySem.W.Frag} : OpC K (rAny K) gAny := fun B H0 Hf H vs rs c Q e1 e2 q hg k => by
  unfold gAny at hg
  split at hg
  · rename_i xs h
    obtain ⟨ns, h1, h2⟩ := Option.map_eq_some_iff.mp hg
    subst h2
    obtain ⟨a, rfl, s⟩ := q.bools e1 h h1
    exact ⟨a, ns, rfl, s, k _ Hf H (Gr.refl e1) (Dp.bl _)⟩
  · cases hg
def minL : List Int → Int
  | [] => 0
  | [x] => x
  | x :: y :: r => min x (minL (y :: r))
def maxL : List Int → Int
  | [] => 0
  | [x] => x
  | x :: y :: r => max x (maxL (y :: r))
theorem minL_mem : ∀ {ns : List Int}, ns ≠ [] → minL ns ∈ ns
  | [], h => absurd rfl h
  | [x], _ => by simp [minL]
  | x :: y :: r, _ => by
    have ih := minL_mem (ns := y :: r) (by simp)
    show min x (minL (y :: r)) ∈ _
    rcases Int.le_total x (minL (y :: r)) with h | h
    · rw [Int.min_eq_left h]; exact List.mem_cons_self
    · rw [Int.min_eq_right h]; exact List.mem_cons_of_mem _ ih
theorem minL_le : ∀ {ns : List Int} {z : Int}, z ∈ ns → minL ns ≤ z
  | [x], z, h => by simp at h; subst h; exact Int.le_refl _
  | x :: y :: r, z, h => by
    show min x (minL (y :: r)) ≤ z
    rcases List.mem_cons.mp h with e | h
    · subst e; exact Int.min_le_left _ _
    · exact Int.le_trans (Int.min_le_right _ _) (minL_le h)
theorem maxL_mem : ∀ {ns : List Int}, ns ≠ [] → maxL ns ∈ ns
  | [], h => absurd rfl h
  | [x], _ => by simp [maxL]
  | x :: y :: r, _ => by
    have ih := maxL_mem (ns := y :: r) (by simp)
    show max x (maxL (y :: r)) ∈ _
    rcases Int.le_total x (maxL (y :: r)) with h | h
    · rw [Int.max_eq_right h]; exact List.mem_cons_of_mem _ ih
    · rw [Int.max_eq_left h]; exact List.mem_cons_self
theorem le_maxL : ∀ {ns : List Int} {z : Int}, z ∈ ns → z ≤ maxL ns
  | [x], z, h => by simp at h; subst h; exact Int.le_refl _
  | x :: y :: r, z, h => by
    show z ≤ max x (maxL (y :: r))
    rcases List.mem_cons.mp h with e | h
    · subst e; exact Int.le_max_left _ _
    · exact Int.le_trans (le_maxL h) (Int.le_max_right _ _)
def gMin : List PyData → Option Res
  | [.list xs] => (intsOf xs).bind fun ns => if ns = [] then none else some (.fz (.int (minL ns)))
  | [.int i, .int j] => some (.fz (.int (if j < i then j else i)))
  | _ => none
def gMax : List PyData → Option Res
  | [.list xs] => (intsOf xs).bind fun ns => if ns = [] then none else some (.fz (.int (maxL ns)))
  | [.int i, .int j] => some (.fz (.int (if j > i then j else i)))
  | _ => none
theorem c_min {K : PySem.W.Frag} : OpC K (fun xs H Q => rMin K xs H Q ∨ ∃ i j, xs = [.int i, .int j] ∧ Q (.int (if j < i then j else i)) H) gMin := fun B H0 Hf H vs rs c Q e1 e2 q hg k => by
  unfold gMin at hg
  split at hg
  · rename_i xs h
    obtain ⟨ns, h1, h2⟩ := Option.bind_eq_some_iff.mp hg
    split at h2
    · cases h2
    · rename_i hne
      cases h2
      obtain ⟨a, rfl, s⟩ := q.ints e1 h h1
      refine .inl ⟨a, ns, rfl, s, List.length_pos_iff.mpr hne, fun m h3 h4 => ?_⟩
      have e : m = minL ns := Int.le_antisymm (h4 _ (minL_mem hne)) (minL_le h3)
      rw [e]
      exact k _ Hf H (Gr.refl e1) (Dp.int _)
  · rename_i i j h
    cases hg
    obtain ⟨v, r, w, s, rfl, rfl, h1, h2, q1, q2⟩ := q.two h
    cases q1.int h1
    cases q2.int h2
    exact .inr ⟨i, j, rfl, k _ Hf H (Gr.refl e1) (Dp.int _)⟩
  · cases hg
theorem c_max {K : PySem.W.Frag} : OpC K (fun xs H Q => rMax K xs H Q ∨ ∃ i j, xs = [.int i, .int j] ∧ Q (.int (if j > i then j else i)) H) gMax := fun B H0 Hf H vs rs c Q e1 e2 q hg k => by
  unfold gMax at hg
  split at hg
  · rename_i xs h
    obtain ⟨ns, h1, h2⟩ := Option.bind_eq_some_iff.mp hg
    split at h2
    · cases h2
    · rename_i hne
      cases h2
      obtain ⟨a, rfl, s⟩ := q.ints e1 h h1
      refine .inl ⟨a, ns, rfl, s, List.length_pos_iff.mpr hne, fun m h3 h4 => ?_⟩
      have e : m = maxL ns := Int.le_antisymm (le_maxL h3) (h4 _ (maxL_mem hne))
      rw [e]
      exact k _ Hf H (Gr.refl e1) (Dp.int _)
  · rename_i i j h
    cases hg
    obtain ⟨v, r, w, s, rfl, rfl, h1, h2, q1, q2⟩ := q.two h
    cases q1.int h1
    cases q2.int h2
    exact .inr ⟨i, j, rfl, k _ Hf H (Gr.refl e1) (Dp.int _)⟩
  · cases hg
/-- a built-in function, a built-in class -/
theorem d_blt {x : Str} {p : Pos} {id : String} {r : List V → Hp → VK → Prop} {g : List PyData → Option Res} (hc : CallR X (.builtin id) r) (o : OpC X.K r g) (hm : X.mg x = none) (hv : bootBuiltins x = some (.builtin id)) (ha : DA X (e :: es) fs) (hg : Gl X x := by rfl) (hn : x ≠ "__name__" := by decide) (hdb : (x == ("__debug__" : Str)) = false := by decide)
    (he : starEach (e :: es) X.env = (false, eval e X.env) :: starEach es X.env := by rfl) (hpl : (backTo pos (starEach es X.env)).any (·.1) = false := by rfl) : DE X (.Call (.Name x p) (e :: es) [] pos) (fC1 g fs) := pe_mono (pe_callB hc hg hm hv ha hn hdb he hpl) (entC o)
theorem d_ty {x : Str} {p : Pos} {id : String} {r : List V → Hp → VK → Prop} {g : List PyData → Option Res} (hc : CallR X (.type id) r) (o : OpC X.K r g) (hm : X.mg x = none) (hv : bootBuiltins x = some (.type id)) (ha : DA X (e :: es) fs) (hg : Gl X x := by rfl) (hn : x ≠ "__name__" := by decide) (hdb : (x == ("__debug__" : Str)) = false := by decide)
    (he : starEach (e :: es) X.env = (false, eval e X.env) :: starEach es X.env := by rfl) (hpl : (backTo pos (starEach es X.env)).any (·.1) = false := by rfl) : DE X (.Call (.Name x p) (e :: es) [] pos) (fC1 g fs) := pe_mono (pe_callTy hc hg hm hv ha hn hdb he hpl) (entC o)
/-- isinstance(e, T), T a built-in class -/
def kindS : PyData → String
  | .none => "NoneType"
  | .bool _ => "bool"
  | .int _ => "int"
  | .str _ => "str"
  | .list _ => "list"
  | .tuple _ => "tuple"
  | .dict _ => "dict"
theorem tyx_of {K : PySem.W.Frag} {H : Hp} {v : V} {d : PyData} (h : Dp K H v d) : TyX K H v (.type (kindS d)) := by
  cases h with
  | non => exact .base .non
  | bl b => exact .base (.bl b)
  | int i => exact .base (.int i)
  | str x => exact .base (.str x)
  | lst hs ha =>
    rcases hs with (hs | ⟨o, hs⟩) | ⟨o, its, n, h1, h2, _⟩
    · exact .base (.lst hs)
    · exact .base (.frz hs)
    · exact .kList h1 h2
  | tup hs ha =>
    rcases hs with (hs | ⟨o, hs⟩) | ⟨o, its, n, h1, h2, _⟩
    · exact .base (.tup hs)
    · exact .fTuple hs
    · exact .kTuple h1 h2
def gIsi (n : String) : PyData → Option Res := fun d => (kitB (kindS d) n).map fun b => .fz (.bool b)
theorem d_isi {p q : Pos} {T : Str} {n : String} (ha : DE X e fa) (hm : X.mg "isinstance" = none) (hmT : X.mg T = none) (hvT : bootBuiltins T = some (.type n)) (hb : bootBuiltins "isinstance" = some (.builtin "isinstance")) (hg : Gl X "isinstance" := by rfl) (hgT : Gl X T := by rfl) (hn : T ≠ "__name__" := by decide) (hdb : (T == ("__debug__" : Str)) = false := by decide)
    (h1 : starEach [e, .Name T q] X.env = (false, eval e X.env) :: starEach [.Name T q] X.env := by rfl) (h2 : starEach [.Name T q] X.env = (false, eval (.Name T q) X.env) :: starEach [] X.env := by rfl) (hpl : (backTo pos (starEach [.Name T q] X.env)).any (·.1) = false := by rfl) :
    DE X (.Call (.Name "isinstance" p) [e, .Name T q] [] pos) (f1 (gIsi n) fa) := pe_mono (pe_callB call_isi hg hm hb (pa_cons ha (pa_cons (pe_bltn (v := .ty n) hgT hmT hvT rfl hn hdb) pa_nil h2) h1) (by decide) (by decide) h1 hpl) fun σ H Q h => by
  obtain ⟨B, Hf, ρ, r, er, hf, k⟩ := h
  unfold f1 at hf
  obtain ⟨ra, h1, hf⟩ := Option.bind_eq_some_iff.mp hf
  obtain ⟨b, h3, h4⟩ := Option.map_eq_some_iff.mp hf
  subst h4
  exact ⟨B, Hf, ρ, ra, er, h1, fun v Hf1 H1 g1 q1 => ⟨v, .ty n, _, _, b, rfl, .ty n, tyx_of (q1.dp g1.fh), kit_ty h3, k _ _ _ g1 (Dp.bl _)⟩⟩
end
end DL
namespace DL
open PySem PySem.Spec PyProof.Rows L2

/-! ### what is walked -/
/-- an iterator that yields these data while the heap Hb stands; Hf: what stands still -/
structure Itd (K : PySem.W.Frag) (Hb Hf : Hp) (J : It) (ds : List PyData) : Prop where
  go : ∀ i H, Same Hb H → i < ds.length → J.go i H
  stop : ∀ i H, Same Hb H → ds.length ≤ i → J.stop i H
  yld : ∀ i H x H' Hg d, Same Hb H → Same Hf Hg → Same Hg H → ds[i]? = some d → J.yld i H x H' → ∃ Hg', Gr Hg H Hg' H' ∧ Dp K Hg' x d
theorem Itd.more {K : PySem.W.Frag} {Hb Hf Hb2 Hf2 : Hp} {J : It} {ds : List PyData} (I : Itd K Hb Hf J ds) (h1 : Same Hb Hb2) (h2 : Same Hf Hf2) : Itd K Hb2 Hf2 J ds :=
  ⟨fun i H s h => I.go i H (h1.trans s) h, fun i H s h => I.stop i H (h1.trans s) h, fun i H x H' Hg d s1 s2 s3 e y => I.yld i H x H' Hg d (h1.trans s1) (h2.trans s2) s3 e y⟩
/-- for: what is walked stands still -/
def tDI (K : PySem.W.Frag) (f : Rho → Option (List PyData)) : TI := fun σ H R => ∃ B Hf ρ ds, ER K B Hf H σ ρ ∧ f ρ = some ds ∧ ∀ J Hf' H', Gr Hf H Hf' H' → Itd K Hf' Hf' J ds → R J H'
/-- a comprehension: what is walked may be a slot's own list -/
def tDJ (K : PySem.W.Frag) (f : Rho → Option (List PyData)) : TI := fun σ H R => ∃ B Hf ρ ds, ER K B Hf H σ ρ ∧ f ρ = some ds ∧ ∀ J Hf' H', Gr Hf H Hf' H' → Itd K H' Hf' J ds → R J H'
abbrev DI (X : Cx) (tg e : Expr) (f : Rho → Option (List PyData)) : Prop := PI X tg e (tDI X.K f)
abbrev DJ (X : Cx) (tg e : Expr) (f : Rho → Option (List PyData)) : Prop := PI X tg e (tDJ X.K f)
theorem PI.or {X : Cx} {tg e : Expr} {t u : TI} (h : PI X tg e t) (h' : PI X tg e u) : PI X tg e (fun σ H R => t σ H R ∨ u σ H R) := ⟨fun pins s σ H R I q => by
  rcases q with q | q
  · exact h.run pins s σ H R I q
  · exact h'.run pins s σ H R I q⟩
theorem DI.dj {X : Cx} {tg e : Expr} {f : Rho → Option (List PyData)} (h : DI X tg e f) : DJ X tg e f := pi_mono h fun σ H R q => by
  obtain ⟨B, Hf, ρ, ds, er, hf, k⟩ := q
  exact ⟨B, Hf, ρ, ds, er, hf, fun J Hf' H' g I => k J Hf' H' g (I.more g.fh (Same.refl _))⟩
theorem getE {α : Type} {ds : List α} {i : Nat} (h : i < ds.length) : ds[i]? = some ds[i] := List.getElem?_eq_getElem h
theorem itd_list {K : PySem.W.Frag} {Hb Hf : Hp} {a : Addr} {vs : List V} {ds : List PyData} (h : SqL K Hb a vs) (hd : DpAll K Hf vs ds) : Itd K Hb Hf (Itl K a) ds where
  go := fun i H s hi => by
    obtain ⟨v, h1, h2⟩ := dpa_get hd (getE hi)
    exact ⟨vs, v, s.seq h, h1⟩
  stop := fun i H s hi => ⟨vs, s.seq h, by rw [dpa_len hd]; exact hi⟩
  yld := fun i H x H' Hg d s1 s2 s3 e y => by
    obtain ⟨rfl, y⟩ := y
    obtain ⟨v, h1, h2⟩ := dpa_get hd e
    have := y vs (s1.seq h)
    rw [h1] at this
    cases this
    exact ⟨Hg, Gr.refl s3, dp_mono s2 _ _ h2⟩
theorem itd_tup {K : PySem.W.Frag} {Hb Hf : Hp} {a : Addr} {vs : List V} {ds : List PyData} (h : SqT K Hb a vs) (hd : DpAll K Hf vs ds) : Itd K Hb Hf (Itt K a) ds where
  go := fun i H s hi => by
    obtain ⟨v, h1, h2⟩ := dpa_get hd (getE hi)
    exact ⟨vs, v, sqt_mono s h, h1⟩
  stop := fun i H s hi => ⟨vs, sqt_mono s h, by rw [dpa_len hd]; exact hi⟩
  yld := fun i H x H' Hg d s1 s2 s3 e y => by
    obtain ⟨rfl, y⟩ := y
    obtain ⟨v, h1, h2⟩ := dpa_get hd e
    have := y vs (sqt_mono s1 h)
    rw [h1] at this
    cases this
    exact ⟨Hg, Gr.refl s3, dp_mono s2 _ _ h2⟩
def rgD (lo : Int) (n : Nat) : List PyData := (List.range n).map fun i => .int (lo + (i : Nat))
theorem rgD_len (lo : Int) (n : Nat) : (rgD lo n).length = n := by unfold rgD; rw [List.length_map, List.length_range]
theorem itd_range {K : PySem.W.Frag} {Hb Hf : Hp} {lo : Int} {n : Nat} : Itd K Hb Hf (Itr lo n) (rgD lo n) where
  go := fun i H s hi => by rw [rgD_len] at hi; exact hi
  stop := fun i H s hi => by rw [rgD_len] at hi; exact hi
  yld := fun i H x H' Hg d s1 s2 s3 e y => by
    obtain ⟨rfl, rfl⟩ := y
    have hi : i < n := by
      have := (List.getElem?_eq_some_iff.mp e).1
      rw [rgD_len] at this
      exact this
    have e2 : (rgD lo n)[i]? = some (.int (lo + (i : Nat))) := by
      unfold rgD
      rw [List.getElem?_map, List.getElem?_range hi]
      rfl
    rw [e2] at e
    cases e
    exact ⟨Hg, Gr.refl s3, .int _⟩
def enD : Nat → List PyData → List PyData
  | _, [] => []
  | i, d :: ds => .tuple [.int i, d] :: enD (i + 1) ds
theorem enD_len : ∀ (i : Nat) (ds : List PyData), (enD i ds).length = ds.length
  | _, [] => rfl
  | i, d :: ds => by
    show (enD (i + 1) ds).length + 1 = ds.length + 1
    rw [enD_len]
theorem enD_get : ∀ (k : Nat) (ds : List PyData) (i : Nat), (enD k ds)[i]? = (ds[i]?).map fun d => .tuple [.int (((k + i : Nat)) : Int), d]
  | _, [], i => by simp [enD]
  | k, d :: ds, 0 => by simp [enD]
  | k, d :: ds, i + 1 => by
    show (enD (k + 1) ds)[i]? = _
    rw [enD_get (k + 1) ds i]
    have e : k + 1 + i = k + (i + 1) := by omega
    rw [e]
    rfl
theorem itd_enum {K : PySem.W.Frag} {Hb Hf : Hp} {a : Addr} {vs : List V} {ds : List PyData} (h : SqL K Hb a vs) (hd : DpAll K Hf vs ds) : Itd K Hb Hf (Ite K a) (enD 0 ds) where
  go := fun i H s hi => by
    rw [enD_len] at hi
    obtain ⟨v, h1, h2⟩ := dpa_get hd (getE hi)
    exact ⟨vs, v, s.seq h, h1⟩
  stop := fun i H s hi => by
    rw [enD_len] at hi
    exact ⟨vs, s.seq h, by rw [dpa_len hd]; exact hi⟩
  yld := fun i H x H' Hg d s1 s2 s3 e y => by
    obtain ⟨T, y, rfl, hT, rfl, yy⟩ := y
    rw [enD_get] at e
    obtain ⟨d0, e0, rfl⟩ := Option.map_eq_some_iff.mp e
    obtain ⟨v, h1, h2⟩ := dpa_get hd e0
    have ev : v = y := by
      have q := yy vs (s1.seq h)
      rw [h1] at q
      exact Option.some.inj q
    subst ev
    have gn := Gr.new (o := .tup [.int (i : Nat), v]) s3 hT
    refine ⟨_, gn, .tup (SqT.of upd_same) (.cons ?_ (.cons (dp_mono (s2.trans gn.f) _ _ h2) .nil))⟩
    rw [Nat.zero_add]
    exact .int _

section
variable {X : Cx} {tg a b c e : Expr} {es : List Expr} {fa fb fc : FE} {fs : FA} {pos : Pos}
/-- the items of a result: of one that stands still (or may be made to), of any -/
def itF (f : FE) : Rho → Option (List PyData) := fun ρ => (f ρ).bind fun r => match r with
  | .fz (.list xs) => some xs
  | .fz (.tuple xs) => some xs
  | .nw xs => some xs
  | _ => none
def itR (f : FE) : Rho → Option (List PyData) := fun ρ => (f ρ).bind fun r => match r.rd with
  | .list xs => some xs
  | .tuple xs => some xs
  | _ => none
theorem i_seq (ha : DE X e fa) : DI X tg e (itF fa) := pi_mono (PI.or (pi_list ha) (pi_tup ha)) fun σ H R q => by
  obtain ⟨B, Hf, ρ, ds, er, hf, k⟩ := q
  unfold itF at hf
  obtain ⟨r, h1, h2⟩ := Option.bind_eq_some_iff.mp hf
  split at h2
  · cases h2
    refine .inl ⟨B, Hf, ρ, _, er, h1, fun v Hf' H' g q => ?_⟩
    have q' : Dp X.K Hf' v (.list _) := q
    cases q' with
    | lst hs hd => exact ⟨_, rfl, ⟨_, g.fh.seq hs⟩, k _ _ _ g (itd_list hs hd)⟩
  · cases h2
    refine .inr ⟨B, Hf, ρ, _, er, h1, fun v Hf' H' g q => ?_⟩
    obtain ⟨p, vs, rfl, s1, d1⟩ := q.tup rfl
    exact ⟨p, rfl, ⟨vs, sqt_mono g.fh s1⟩, k _ _ _ g (itd_tup s1 d1)⟩
  · cases h2
    refine .inl ⟨B, Hf, ρ, _, er, h1, fun v Hf' H' g q => ?_⟩
    obtain ⟨Hf2, g2, s2, d2⟩ := q.freeze er g rfl
    cases d2 with
    | lst hs hd => exact ⟨_, rfl, ⟨_, g2.fh.seq hs⟩, k _ _ _ g2 (itd_list hs hd)⟩
  · cases h2
theorem j_seq (ha : DE X e fa) : DJ X tg e (itR fa) := pi_mono (PI.or (pi_list ha) (pi_tup ha)) fun σ H R q => by
  obtain ⟨B, Hf, ρ, ds, er, hf, k⟩ := q
  unfold itR at hf
  obtain ⟨r, h1, h2⟩ := Option.bind_eq_some_iff.mp hf
  split at h2
  · rename_i hr
    cases h2
    refine .inl ⟨B, Hf, ρ, _, er, h1, fun v Hf' H' g q => ?_⟩
    obtain ⟨p, vs, rfl, s1, d1⟩ := q.lst g.fh hr
    exact ⟨p, rfl, ⟨_, s1⟩, k _ _ _ g (itd_list s1 d1)⟩
  · rename_i hr
    cases h2
    refine .inr ⟨B, Hf, ρ, _, er, h1, fun v Hf' H' g q => ?_⟩
    obtain ⟨p, vs, rfl, s1, d1⟩ := q.tup hr
    exact ⟨p, rfl, ⟨vs, sqt_mono g.fh s1⟩, k _ _ _ g (itd_tup (sqt_mono g.fh s1) d1)⟩
  · cases h2
def rg1 (fs : FA) : Rho → Option (List PyData) := fun ρ => (fs ρ).bind fun rs => match rs.map Res.rd with
  | [.int j] => if -(2 ^ 62) ≤ j ∧ j < 2 ^ 62 then some (rgD 0 j.toNat) else none
  | _ => none
def rg2 (fs : FA) : Rho → Option (List PyData) := fun ρ => (fs ρ).bind fun rs => match rs.map Res.rd with
  | [.int i, .int j] => if -(2 ^ 62) ≤ i ∧ i < 2 ^ 62 ∧ -(2 ^ 62) ≤ j ∧ j < 2 ^ 62 then some (rgD i (j - i).toNat) else none
  | _ => none
theorem i_rg1 {p : Pos} (hm : X.mg "range" = none) (ha : DA X [a] fs) (hg : Gl X "range" := by rfl) (hs : starEach [a] X.env = [(false, eval a X.env)] := by rfl) : DI X tg (.Call (.Name "range" p) [a] [] pos) (rg1 fs) := pi_mono (pi_range1 hg hm ha hs) fun σ H R q => by
  obtain ⟨B, Hf, ρ, ds, er, hf, k⟩ := q
  unfold rg1 at hf
  obtain ⟨rs, h1, h2⟩ := Option.bind_eq_some_iff.mp hf
  split at h2
  · rename_i j hj
    split at h2
    · rename_i hz
      cases h2
      refine ⟨B, Hf, ρ, rs, er, h1, fun vs Hf' H' g q => ?_⟩
      obtain ⟨v, r, rfl, rfl, hr, q1⟩ := q.one hj
      cases q1.int hr
      exact ⟨j, rfl, hz.1, hz.2, k _ _ _ g itd_range⟩
    · cases h2
  · cases h2
theorem i_rg2 {p : Pos} (hm : X.mg "range" = none) (ha : DA X [a, b] fs) (hg : Gl X "range" := by rfl) (hs : starEach [a, b] X.env = [(false, eval a X.env), (false, eval b X.env)] := by rfl) (hs2 : starEach [b] X.env = [(false, eval b X.env)] := by rfl) : DI X tg (.Call (.Name "range" p) [a, b] [] pos) (rg2 fs) := pi_mono (pi_range2 hg hm ha hs hs2) fun σ H R q => by
  obtain ⟨B, Hf, ρ, ds, er, hf, k⟩ := q
  unfold rg2 at hf
  obtain ⟨rs, h1, h2⟩ := Option.bind_eq_some_iff.mp hf
  split at h2
  · rename_i i j hj
    split at h2
    · rename_i hz
      cases h2
      refine ⟨B, Hf, ρ, rs, er, h1, fun vs Hf' H' g q => ?_⟩
      obtain ⟨v, r, w, s, rfl, rfl, e1, e2, q1, q2⟩ := q.two hj
      cases q1.int e1
      cases q2.int e2
      exact ⟨i, j, rfl, hz, k _ _ _ g itd_range⟩
    · cases h2
  · cases h2
def enF (fs : FA) : Rho → Option (List PyData) := fun ρ => (fs ρ).bind fun rs => match rs with
  | [.fz (.list xs)] => some (enD 0 xs)
  | [.nw xs] => some (enD 0 xs)
  | _ => none
theorem i_enum {p tpos : Pos} {elts : List Expr} {kk : Nat} (hm : X.mg "enumerate" = none) (ha : DA X [e] fs) (hg : Gl X "enumerate" := by rfl) (hs : starEach [e] X.env = [(false, eval e X.env)] := by rfl) :
    DI X (.Tuple elts kk tpos) (.Call (.Name "enumerate" p) [e] [] pos) (enF fs) := pi_mono (pi_enum hg hm ha hs) fun σ H R q => by
  obtain ⟨B, Hf, ρ, ds, er, hf, k⟩ := q
  unfold enF at hf
  obtain ⟨rs, h1, h2⟩ := Option.bind_eq_some_iff.mp hf
  split at h2
  · rename_i xs
    cases h2
    refine ⟨B, Hf, ρ, _, er, h1, fun vs Hf' H' g q => ?_⟩
    cases q with
    | cons q t =>
      cases t
      have q' : Dp X.K Hf' _ (.list _) := q
      cases q' with
      | lst hs hd => exact ⟨_, _, rfl, g.fh.seq hs, k _ _ _ g (itd_enum hs hd)⟩
  · rename_i xs
    cases h2
    refine ⟨B, Hf, ρ, _, er, h1, fun vs Hf' H' g q => ?_⟩
    cases q with
    | cons q t =>
      cases t
      obtain ⟨Hf2, g2, s2, d2⟩ := q.freeze er g rfl
      cases d2 with
      | lst hs hd => exact ⟨_, _, rfl, g2.fh.seq hs, k _ _ _ g2 (itd_enum hs hd)⟩
  · cases h2
end

/-! ### targets: names, tuples of names -/
abbrev FU := PyData → Rho → Option Rho
def tDG (K : PySem.W.Frag) (u : FU) : TG := fun v σ H Q => ∃ B Hf ρ d ρ', ER K B Hf H σ ρ ∧ Dp K Hf v d ∧ u d ρ = some ρ' ∧ ∀ σ', ER K B Hf H σ' ρ' → Q σ' H
abbrev DG (X : Cx) (e : Expr) (u : FU) : Prop := PG X e (tDG X.K u)
theorem ER.set {K : PySem.W.Frag} {B Hf H : Hp} {σ : L2.St} {ρ : Rho} {v : V} {d : PyData} (er : ER K B Hf H σ ρ) (i : Nat) (h : Dp K Hf v d) : ER K B Hf H (σ.set i (some v)) (ρ.set i (.d d)) := by
  refine ⟨er.fh, er.bh, by rw [List.length_set, List.length_set]; exact er.len, fun j s o h1 h2 => ?_, fun j k xs ys p hjk h1 h2 h3 h4 => ?_⟩
  · by_cases z : i = j
    · subst z
      by_cases hi : i < ρ.length
      · rw [List.getElem?_set_self hi] at h1
        rw [List.getElem?_set_self (by rw [er.len]; exact hi)] at h2
        cases h1; cases h2
        exact ⟨v, rfl, h⟩
      · rw [List.getElem?_eq_none (by rw [List.length_set]; omega)] at h1
        cases h1
    · rw [List.getElem?_set_ne z] at h1 h2
      exact er.sl j s o h1 h2
  · have nj : ∀ {j : Nat} {xs : List PyData}, (ρ.set i (Slot.d d))[j]? = some (.own xs) → i ≠ j := fun {j xs} q z => by
      subst z
      by_cases hi : i < ρ.length
      · rw [List.getElem?_set_self hi] at q; cases q
      · rw [List.getElem?_eq_none (by rw [List.length_set]; omega)] at q; cases q
    have n1 := nj h1
    have n2 := nj h2
    rw [List.getElem?_set_ne n1] at h1 h3
    rw [List.getElem?_set_ne n2] at h2 h4
    exact er.dj j k xs ys p hjk h1 h2 h3 h4
def uName (i : Nat) : FU := fun d ρ => some (ρ.set i (.d d))
section
variable {X : Cx} {e : Expr} {es : List Expr} {pos : Pos} {u : FU}
theorem g_name {x : Str} (i : Nat) (hN : X.N.Nodup) (hi : X.N[i]? = some x := by rfl) (hx : Loc X.env.scope x := by first | exact Or.inl rfl | exact Or.inr rfl) (hf : X.fn x = true ∨ X.env.scope.names.lookup x = some .local := by first | exact .inl rfl | exact .inr rfl | assumption) : DG X (.Name x pos) (uName i) := pg_mono (pg_name (i := i) hN hi hx hf) fun v σ H Q h => by
  obtain ⟨B, Hf, ρ, d, ρ', er, hd, hu, k⟩ := h
  cases hu
  exact k _ (er.set i hd)
abbrev FUs := List PyData → Rho → Option Rho
def tDGs (K : PySem.W.Frag) (u : FUs) : TGs := fun vs σ H Q => ∃ B Hf ρ ds ρ', ER K B Hf H σ ρ ∧ DpAll K Hf vs ds ∧ u ds ρ = some ρ' ∧ ∀ σ', ER K B Hf H σ' ρ' → Q σ' H
abbrev DGs (X : Cx) (es : List Expr) (u : FUs) : Prop := PGs X es (tDGs X.K u)
theorem pgs_mono {X : Cx} {e : List Expr} {t t' : TGs} (h : PGs X e t) (k : ∀ v σ H Q, t' v σ H Q → t v σ H Q) : PGs X e t' := ⟨fun pins s σ H v u Q I r q => h.run pins s σ H v u Q I r (k _ _ _ _ q)⟩
def uNil : FUs := fun ds ρ => match ds with
  | [] => some ρ
  | _ => none
def uCons (u : FU) (us : FUs) : FUs := fun ds ρ => match ds with
  | d :: r => (u d ρ).bind fun ρ1 => us r ρ1
  | _ => none
theorem gs_nil : DGs X [] uNil := pgs_mono pgs_nil fun v σ H Q h => by
  obtain ⟨B, Hf, ρ, d, ρ', er, hd, hu, k⟩ := h
  unfold uNil at hu
  split at hu
  · cases hu
    cases hd
    exact ⟨rfl, k _ er⟩
  · cases hu
theorem gs_cons {us : FUs} (h1 : DG X e u) (h2 : DGs X es us) (hs : (assignEach (e :: es) X.env).map (·.2) = assign e X.env :: (assignEach es X.env).map (·.2) := by rfl) : DGs X (e :: es) (uCons u us) := pgs_mono (pgs_cons h1 h2 hs) fun v σ H Q h => by
  obtain ⟨B, Hf, ρ, d, ρ', er, hd, hu, k⟩ := h
  unfold uCons at hu
  split at hu
  · cases hd with
    | cons a t =>
      obtain ⟨ρ1, e1, e2⟩ := Option.bind_eq_some_iff.mp hu
      exact ⟨_, _, rfl, B, Hf, ρ, _, ρ1, er, a, e1, fun σ' er' => ⟨B, Hf, ρ1, _, ρ', er', t, e2, k⟩⟩
  · cases hu
/-- (a, b, ..) = a tuple or a list of that length -/
def uTup (n : Nat) (us : FUs) : FU := fun d ρ => match d with
  | .tuple ds => if ds.length = n then us ds ρ else none
  | .list ds => if ds.length = n then us ds ρ else none
  | _ => none
theorem PG.or {X : Cx} {e : Expr} {t u : TG} (h : PG X e t) (h' : PG X e u) : PG X e (fun v σ H Q => t v σ H Q ∨ u v σ H Q) := ⟨fun pins s σ H v w Q I r q => by
  rcases q with q | q
  · exact h.run pins s σ H v w Q I r q
  · exact h'.run pins s σ H v w Q I r q⟩
theorem g_tup {k : Nat} {n : Nat} {us : FUs} (h : DGs X es us) (hc : X.calm = true := by rfl) (hn : (assignEach es X.env).length = n := by rfl) (hst : (assignEach es X.env).findIdx? (·.1) = none := by rfl) : DG X (.Tuple es k pos) (uTup n us) := pg_mono (PG.or (pg_tup hc h hn hst) (pg_unl hc h hn hst)) fun v σ H Q h => by
  obtain ⟨B, Hf, ρ, d, ρ', er, hd, hu, k⟩ := h
  unfold uTup at hu
  split at hu
  · split at hu
    · rename_i hl
      cases hd with
      | tup hs ha => exact .inl ⟨_, _, rfl, sqt_mono er.fh hs, by rw [dpa_len ha]; exact hl, B, Hf, ρ, _, ρ', er, ha, hu, k⟩
    · cases hu
  · split at hu
    · rename_i hl
      cases hd with
      | lst hs ha => exact .inr ⟨_, _, rfl, er.fh.seq hs, by rw [dpa_len ha]; exact hl, B, Hf, ρ, _, ρ', er, ha, hu, k⟩
    · cases hu
  · cases hu
end

/-! ### comprehensions -/
def wipeR (ρ : Rho) : List Nat → Rho
  | [] => ρ
  | v :: vs => (wipeR ρ vs).set v .und
theorem ER.wipe {K : PySem.W.Frag} {B Hf H : Hp} {σ : L2.St} {ρ : Rho} (er : ER K B Hf H σ ρ) : ∀ vs : List Nat, ER K B Hf H (L2.wipe σ vs) (wipeR ρ vs)
  | [] => er
  | v :: vs => by
    have ih := er.wipe vs
    unfold L2.wipe wipeR
    refine ⟨ih.fh, ih.bh, by rw [List.length_set, List.length_set]; exact ih.len, fun j s o h1 h2 => ?_, fun j k xs ys p hjk h1 h2 h3 h4 => ?_⟩
    · by_cases z : v = j
      · subst z
        by_cases hi : v < (wipeR ρ vs).length
        · rw [List.getElem?_set_self hi] at h1
          cases h1
          trivial
        · rw [List.getElem?_eq_none (by rw [List.length_set]; omega)] at h1
          cases h1
      · rw [List.getElem?_set_ne z] at h1 h2
        exact ih.sl j s o h1 h2
    · have nj : ∀ {j : Nat} {xs : List PyData}, ((wipeR ρ vs).set v Slot.und)[j]? = some (.own xs) → v ≠ j := fun {j xs} q z => by
        subst z
        by_cases hi : v < (wipeR ρ vs).length
        · rw [List.getElem?_set_self hi] at q; cases q
        · rw [List.getElem?_eq_none (by rw [List.length_set]; omega)] at q; cases q
      have n1 := nj h1
      have n2 := nj h2
      rw [List.getElem?_set_ne n1] at h1 h3
      rw [List.getElem?_set_ne n2] at h2 h4
      exact ih.dj j k xs ys p hjk h1 h2 h3 h4
def lcD (j : Nat) (c : Rho → Option Bool) (e : FE) (ρ : Rho) : List PyData → Option (List PyData)
  | [] => some []
  | x :: xs => (c (ρ.set j (.d x))).bind fun b => if b = true then (e (ρ.set j (.d x))).bind fun r => r.fr.bind fun d => (lcD j c e ρ xs).map fun ds => d :: ds else lcD j c e ρ xs
theorem lcD_len {j : Nat} {c : Rho → Option Bool} {e : FE} {ρ : Rho} : ∀ {xs ds : List PyData}, lcD j c e ρ xs = some ds → ds.length ≤ xs.length
  | [], _, h => by cases h; exact Nat.le_refl _
  | x :: xs, _, h => by
    unfold lcD at h
    obtain ⟨b, h1, h⟩ := Option.bind_eq_some_iff.mp h
    split at h
    · obtain ⟨r, h2, h⟩ := Option.bind_eq_some_iff.mp h
      obtain ⟨d, h3, h⟩ := Option.bind_eq_some_iff.mp h
      obtain ⟨ds, h4, h⟩ := Option.map_eq_some_iff.mp h
      subst h
      exact Nat.succ_le_succ (lcD_len h4)
    · exact Nat.le_succ_of_le (lcD_len h)
def fLc (it : Rho → Option (List PyData)) (j : Nat) (c : Rho → Option Bool) (e : FE) (vs : List Nat) : FE := fun ρ => (it ρ).bind fun xs => if small xs.length then (lcD j c e (wipeR ρ vs) xs).map fun ds => .nw ds else none
theorem lc_ent {K : PySem.W.Frag} {it : Rho → Option (List PyData)} {j : Nat} {c : Rho → Option Bool} {e : FE} : ∀ σ H Q, tD K (fLc it j c e [j]) σ H Q → tLc (tDJ K it) (gName j) (tDT K c) (tD K e) [j] σ H Q := fun σ H Q h => by
  obtain ⟨B, Hf, ρ, r, er, hf, k⟩ := h
  unfold fLc at hf
  obtain ⟨xs, h1, h2⟩ := Option.bind_eq_some_iff.mp hf
  split at h2
  · rename_i hz
    obtain ⟨ds, h3, h4⟩ := Option.map_eq_some_iff.mp h2
    subst h4
    refine ⟨B, Hf, ρ, xs, er, h1, fun J Hf1 H1 g1 I1 D hD => ?_⟩
    have er1 : ER K B Hf1 H1 (L2.wipe σ [j]) (wipeR ρ [j]) := (er.grow g1).wipe [j]
    let P : Nat → Hp → Prop := fun i H2 => ∃ Hg vs acc, Same Hf1 Hg ∧ Same H1 H2 ∧ Same Hg H2 ∧ (∀ a o, H1 a = some o → Hf1 a = none → Hg a = none) ∧ Hg D = none ∧ H2 D = some (.lst vs) ∧ DpAll K Hg vs acc ∧ acc.length ≤ i ∧ ∃ rest, lcD j c e (wipeR ρ [j]) (xs.drop i) = some rest ∧ acc ++ rest = ds
    refine ⟨fun i m H2 => m = xs.length - i ∧ i ≤ xs.length ∧ P i H2, ⟨xs.length, by simp, Nat.zero_le _, Hf1, [], [], Same.refl _, same_upd hD, g1.fh.trans (same_upd hD), fun a o _ n => n, g1.fh.free hD, upd_same, .nil, Nat.le_refl _, ds, by rw [List.drop_zero]; exact h3, rfl⟩, ?_⟩
    rintro i m H2 ⟨rfl, hi, Hg, vs, acc, s1, s2, s3, un, gD, hDv, da, hacc, rest, hl, ha⟩
    by_cases hlt : i < xs.length
    · refine .inr ⟨I1.go i H2 s2 hlt, P (i + 1), fun H' p => ⟨xs.length - (i + 1), by omega, rfl, hlt, p⟩, fun x H3 y => ?_⟩
      obtain ⟨Hg3, g3, dx⟩ := I1.yld i H2 x H3 Hg xs[i] s2 s1 s3 (getE hlt) y
      have gBase : Gr Hg H2 Hg3 H3 := g3
      -- the frame's own slots at this heap
      have erA : ER K B Hg3 H3 (L2.wipe σ [j]) (wipeR ρ [j]) := er1.grow ⟨s1.trans g3.f, s2.trans g3.h, g3.fh, fun a o q n => g3.un a o (s2 _ _ q) (un a o q n)⟩
      have erB := erA.set j dx
      refine ⟨?_, ?_⟩
      · show (((σ.set j none).set j (some x)).set j none) = σ.set j none
        rw [List.set_set, List.set_set]
      · rw [List.drop_eq_getElem_cons hlt] at hl
        unfold lcD at hl
        obtain ⟨bb, hb, hl⟩ := Option.bind_eq_some_iff.mp hl
        refine ⟨B, Hg3, _, bb, erB, hb, fun Hg4 H4 g4 => ?_⟩
        have D3 : H3 D = some (.lst vs) := g3.h _ _ hDv
        have gD3 : Hg3 D = none := g3.un D _ hDv gD
        have D4 : H4 D = some (.lst vs) := g4.h _ _ D3
        have gD4 : Hg4 D = none := g4.un D _ D3 gD3
        cases bb with
        | false =>
          have hl' : lcD j c e (wipeR ρ [j]) (xs.drop (i + 1)) = some rest := by simpa using hl
          show P (i + 1) H4
          refine ⟨Hg4, vs, acc, (s1.trans g3.f).trans g4.f, (s2.trans g3.h).trans g4.h, g4.fh, fun a o q n => g4.un a o (g3.h _ _ (s2 _ _ q)) (g3.un a o (s2 _ _ q) (un a o q n)), gD4, D4, dpa_mono (g3.f.trans g4.f) _ _ da, Nat.le_succ_of_le hacc, rest, hl', ha⟩
        | true =>
          rw [if_pos rfl] at hl
          obtain ⟨r5, h5, hl⟩ := Option.bind_eq_some_iff.mp hl
          obtain ⟨d5, h6, hl⟩ := Option.bind_eq_some_iff.mp hl
          obtain ⟨ds5, h7, hl⟩ := Option.map_eq_some_iff.mp hl
          refine ⟨B, Hg4, _, r5, erB.grow g4, h5, fun y5 Hg5 H5 g5 q5 => ?_⟩
          obtain ⟨Hg6, g6, s6, d6⟩ := q5.freeze (erB.grow g4) g5 h6
          have D5 : H5 D = some (.lst vs) := g6.h _ _ D4
          have gD6 : Hg6 D = none := g6.un D _ D4 gD4
          have lv := dpa_len da
          refine ⟨vs, D5, Nat.lt_of_le_of_lt (by omega : vs.length ≤ xs.length) (Nat.lt_of_le_of_lt hz (by decide)), ?_⟩
          have H1D : ∀ a o, H1 a = some o → a ≠ D := fun a o q z => by rw [z, hD] at q; cases q
          refine ⟨Hg6, vs ++ [y5], acc ++ [d5], ((s1.trans g3.f).trans g4.f).trans g6.f, fun a o q => ?_, fun a o q => ?_, fun a o q n => g6.un a o (g4.h _ _ (g3.h _ _ (s2 _ _ q))) (g4.un a o (g3.h _ _ (s2 _ _ q)) (g3.un a o (s2 _ _ q) (un a o q n))), gD6, upd_same, dpa_app (dpa_mono ((g3.f.trans g4.f).trans g6.f) _ _ da) (.cons d6 .nil), ?_, ds5, h7, ?_⟩
          · rw [upd_ne (H1D a o q)]
            exact g6.h _ _ (g4.h _ _ (g3.h _ _ (s2 _ _ q)))
          · have nD : a ≠ D := fun z => by rw [z, gD6] at q; cases q
            rw [upd_ne nD]
            exact g6.fh _ _ q
          · rw [List.length_append, List.length_singleton]; omega
          · rw [List.append_assoc, ← ha, ← hl]
            rfl
    · have ei : i = xs.length := by omega
      subst ei
      refine .inl ⟨I1.stop _ H2 s2 (Nat.le_refl _), ?_⟩
      rw [List.drop_length] at hl
      cases hl
      rw [List.append_nil] at ha
      subst ha
      have gT : Gr Hf1 H1 Hg H2 := ⟨s1, s2, s3, un⟩
      exact k _ _ _ (g1.trans gT) ⟨D, vs, rfl, g1.h.free hD, gD, hDv, da⟩
  · cases h2
section
variable {X : Cx} {a b c e elt tg iter : Expr} {fa fb fc : FE} {pos : Pos} {it : Rho → Option (List PyData)} {ct : Rho → Option Bool} {scope : Scope} {x : Str} {ifs : List Expr}
def cYes : Rho → Option Bool := fun _ => some true
abbrev DTs (X : Cx) (ifs : List Expr) (f : Rho → Option Bool) : Prop := PTs X ifs (tDT X.K f)
theorem ts_nil : DTs X [] cYes := ⟨fun pins s σ H Q I h => pts_nil.run pins s σ H Q I (by
  obtain ⟨B, Hf, ρ, b, er, hf, k⟩ := h
  cases hf
  exact k _ _ (Gr.refl er.fh))⟩
theorem ts_one {c : Expr} (h : DT X c ct) : DTs X [c] ct := pts_one h
theorem d_lc (j : Nat) (x : Str) (hN : X.N.Nodup) (hi : DJ X tg iter it) (ok : blkC X.N X.env.scope scope [(x, j)] = true)
    (hg : ∀ (s : Shared) (H : Hp) (C : Addr) (cl : List (Str × Addr)) (fp : List Addr), PG (X.blk s H scope (compEnvC scope cl C X.env) fp) tg (gName j))
    (ht : ∀ (s : Shared) (H : Hp) (C : Addr) (cl : List (Str × Addr)) (fp : List Addr), DTs (X.blk s H scope (compEnvC scope cl C X.env) fp) ifs ct)
    (he : ∀ (s : Shared) (H : Hp) (C : Addr) (cl : List (Str × Addr)) (fp : List Addr), DE (X.blk s H scope (compEnvC scope cl C X.env) fp) elt fa) (hc : X.calm = true := by rfl) (hs : ∀ x, foldedSetIterable iter X.env x = pure x := by intro _; rfl) :
    DE X (.ListComp elt [⟨tg, iter, ifs, 0⟩] scope pos) (fLc it j ct fa [j]) := pe_mono (pe_lc (own := [(x, j)]) hc hN hi (blkOk_by ok) hg ht he hs) lc_ent
end
end DL
namespace DL
open PySem PySem.Spec PyProof.Rows L2

inductive Out where
  | nx (ρ : Rho)
  | rt (d : PyData)
  | bk (ρ : Rho)
  | ct (ρ : Rho)
abbrev FS := Rho → Option Out
structure GB (B Hf Hf' : Hp) : Prop where
  f : Same Hf Hf'
  un : ∀ a o, B a = some o → Hf a = none → Hf' a = none
theorem GB.refl {B Hf : Hp} : GB B Hf Hf := ⟨Same.refl _, fun _ _ _ n => n⟩
theorem GB.trans {B Hf H1 H2 : Hp} (a : GB B Hf H1) (b : GB B H1 H2) : GB B Hf H2 := ⟨a.f.trans b.f, fun x o e n => b.un x o e (a.un x o e n)⟩
theorem Gr.gb {B Hf H Hf' H' : Hp} (g : Gr Hf H Hf' H') (bh : Same B H) : GB B Hf Hf' := ⟨g.f, fun a o e n => g.un a o (bh _ _ e) n⟩
def Fin (K : PySem.W.Frag) (B Hf : Hp) (D : Ends) : Out → Prop
  | .nx ρ' => ∀ σ' Hf' H', GB B Hf Hf' → ER K B Hf' H' σ' ρ' → D.nx σ' H'
  | .rt d => ∀ v Hf' H', GB B Hf Hf' → Same Hf' H' → Same B H' → Dp K Hf' v d → D.rt v H'
  | .bk ρ' => ∀ σ' Hf' H', GB B Hf Hf' → ER K B Hf' H' σ' ρ' → D.bk σ' H'
  | .ct ρ' => ∀ σ' Hf' H', GB B Hf Hf' → ER K B Hf' H' σ' ρ' → D.ct σ' H'
theorem Fin.more {K : PySem.W.Frag} {B Hf Hf1 : Hp} {D : Ends} {o : Out} (h : Fin K B Hf D o) (g : GB B Hf Hf1) : Fin K B Hf1 D o := by
  cases o with
  | nx ρ => exact fun σ' Hf' H' g' er => h σ' Hf' H' (g.trans g') er
  | rt d => exact fun v Hf' H' g' e1 e2 dp => h v Hf' H' (g.trans g') e1 e2 dp
  | bk ρ => exact fun σ' Hf' H' g' er => h σ' Hf' H' (g.trans g') er
  | ct ρ => exact fun σ' Hf' H' g' er => h σ' Hf' H' (g.trans g') er
def tDS (K : PySem.W.Frag) (g : FS) : TS := fun D σ H => ∃ B Hf ρ o, ER K B Hf H σ ρ ∧ g ρ = some o ∧ Fin K B Hf D o
abbrev DS (X : Cx) (st : Stmt) (g : FS) : Prop := PS X st (tDS X.K g)
abbrev DSs (X : Cx) (st : List Stmt) (g : FS) : Prop := PSs X st (tDS X.K g)

section
variable {X : Cx} {a b c e tg iter : Expr} {es : List Expr} {st : Stmt} {rest : List Stmt} {fa fb fc : FE} {fs : FA} {pos : Pos} {g g1 g2 : FS} {t : Rho → Option Bool}
def gNil : FS := fun ρ => some (.nx ρ)
def gSeq (g1 g2 : FS) : FS := fun ρ => (g1 ρ).bind fun o => match o with
  | .nx ρ' => g2 ρ'
  | o => some o
theorem tds_next {K : PySem.W.Frag} {D : Ends} {σ : L2.St} {H : Hp} (h : tDS K gNil D σ H) : D.nx σ H := by
  obtain ⟨B, Hf, ρ, o, er, hg, k⟩ := h
  cases hg
  exact k σ Hf H GB.refl er
theorem ss_nil : DSs X [] gNil := pss_mono pss_nil fun D σ H h => tds_next h
theorem s_pass : DS X (.Pass pos) gNil := ps_mono ps_pass fun D σ H h => tds_next h
theorem ss_one (h : DS X st g) : DSs X [st] g := pss_one h
theorem ss_cons (h1 : DS X st g1) (h2 : DSs X rest g2) : DSs X (st :: rest) (gSeq g1 g2) := pss_mono (pss_cons h1 h2) fun D σ H h => by
  obtain ⟨B, Hf, ρ, o, er, hg, k⟩ := h
  unfold gSeq at hg
  obtain ⟨o1, e1, e2⟩ := Option.bind_eq_some_iff.mp hg
  refine ⟨B, Hf, ρ, o1, er, e1, ?_⟩
  cases o1 with
  | nx ρ1 => exact fun σ' Hf' H' g' er' => ⟨B, Hf', ρ1, o, er', e2, k.more g'⟩
  | rt d => cases e2; exact k
  | bk ρ1 => cases e2; exact k
  | ct ρ1 => cases e2; exact k
def gBk : FS := fun ρ => some (.bk ρ)
def gCt : FS := fun ρ => some (.ct ρ)
theorem s_break : DS X (.Break pos) gBk := ps_mono ps_break fun D σ H h => by
  obtain ⟨B, Hf, ρ, o, er, hg, k⟩ := h
  cases hg
  exact k σ Hf H GB.refl er
theorem s_continue : DS X (.Continue pos) gCt := ps_mono ps_continue fun D σ H h => by
  obtain ⟨B, Hf, ρ, o, er, hg, k⟩ := h
  cases hg
  exact k σ Hf H GB.refl er
/-- any result made to stand still (a slot's own list too: the slots are not asked any more) -/
theorem RR.still {K : PySem.W.Frag} {B Hf H Hf' H' : Hp} {σ : L2.St} {ρ : Rho} {v : V} {r : Res} (er : ER K B Hf H σ ρ) (g : Gr Hf H Hf' H') (q : RR K B H Hf' H' v r) : ∃ Hf2, GB B Hf Hf2 ∧ Same Hf2 H' ∧ Same B H' ∧ Dp K Hf2 v r.rd := by
  have bh := er.bh.trans g.h
  cases r with
  | fz y => exact ⟨Hf', g.gb er.bh, g.fh, bh, q⟩
  | nw ys =>
    obtain ⟨Hf2, g2, s2, d2⟩ := q.freeze er g rfl
    exact ⟨Hf2, g2.gb er.bh, g2.fh, bh, d2⟩
  | br ys =>
    obtain ⟨p, vs, rfl, h3, h4, h5, h6⟩ := q
    refine ⟨upd Hf' p (.lst vs), ⟨g.f.trans (same_upd h3), fun a o e n => ?_⟩, fun a o e => ?_, bh, .lst (SqL.of upd_same) (dpa_mono (same_upd h3) _ _ h6)⟩
    · rw [upd_ne (ne_of_none e h4)]; exact g.un a o (er.bh _ _ e) n
    · by_cases z : a = p
      · subst z; rw [upd_same] at e; cases e; exact h5
      · rw [upd_ne z] at e; exact g.fh _ _ e
def gRet (f : FE) : FS := fun ρ => (f ρ).map fun r => .rt r.rd
theorem s_ret (ha : DE X e fa) : DS X (.Return (some e) pos) (gRet fa) := ps_mono (ps_ret ha) fun D σ H h => by
  obtain ⟨B, Hf, ρ, o, er, hg, k⟩ := h
  unfold gRet at hg
  obtain ⟨r, h1, h2⟩ := Option.map_eq_some_iff.mp hg
  subst h2
  refine ⟨B, Hf, ρ, r, er, h1, fun v Hf' H' g' q => ?_⟩
  obtain ⟨Hf2, g2, s1, s2, d⟩ := q.still er g'
  exact k v Hf2 H' g2 s1 s2 d
def gRetN : FS := fun _ => some (.rt .none)
theorem s_retN : DS X (.Return none pos) gRetN := ps_mono ps_retN fun D σ H h => by
  obtain ⟨B, Hf, ρ, o, er, hg, k⟩ := h
  cases hg
  exact k _ Hf H GB.refl er.fh er.bh .non
def gIf (t : Rho → Option Bool) (g1 g2 : FS) : FS := fun ρ => (t ρ).bind fun b => if b = true then g1 ρ else g2 ρ
theorem s_if {p q : List Stmt} (hc : DT X c t) (ha : DSs X p g1) (hb : DSs X q g2) : DS X (.If c p q pos) (gIf t g1 g2) := ps_mono (ps_if hc ha hb) fun D σ H h => by
  obtain ⟨B, Hf, ρ, o, er, hg, k⟩ := h
  unfold gIf at hg
  obtain ⟨bb, h1, h2⟩ := Option.bind_eq_some_iff.mp hg
  refine ⟨B, Hf, ρ, bb, er, h1, fun Hf' H' g' => ?_⟩
  cases bb with
  | true => exact ⟨B, Hf', ρ, o, er.grow g', h2, k.more (g'.gb er.bh)⟩
  | false => exact ⟨B, Hf', ρ, o, er.grow g', h2, k.more (g'.gb er.bh)⟩
def gDrop (f : FE) : FS := fun ρ => (f ρ).map fun _ => .nx ρ
theorem s_expr (ha : DE X e fa) (hs : swapsWith e none pos.line X.env = pure false := by rfl) : DS X (.Expr e pos) (gDrop fa) := ps_mono (ps_expr ha hs) fun D σ H h => by
  obtain ⟨B, Hf, ρ, o, er, hg, k⟩ := h
  unfold gDrop at hg
  obtain ⟨r, h1, h2⟩ := Option.map_eq_some_iff.mp hg
  subst h2
  exact ⟨B, Hf, ρ, r, er, h1, fun v Hf' H' g' q => k σ Hf' H' (g'.gb er.bh) (er.grow g')⟩

/-! ### assignments -/
def gSet (i : Nat) (f : FE) : FS := fun ρ => (f ρ).bind fun r => r.fr.map fun d => .nx (ρ.set i (.d d))
def gSetO (i : Nat) (f : FE) : FS := fun ρ => (f ρ).bind fun r => match r with
  | .nw xs => some (.nx (ρ.set i (.own xs)))
  | .fz d => some (.nx (ρ.set i (.d d)))
  | .br _ => none
theorem ent_set {K : PySem.W.Frag} {te : TE} {i : Nat} (ent : ∀ σ H Q, tD K fa σ H Q → te σ H Q) : ∀ D σ H, tDS K (gSet i fa) D σ H → tAsg te (gName i) D σ H := fun D σ H h => by
  obtain ⟨B, Hf, ρ, o, er, hg, k⟩ := h
  unfold gSet at hg
  obtain ⟨r, h1, h2⟩ := Option.bind_eq_some_iff.mp hg
  obtain ⟨d, h3, h4⟩ := Option.map_eq_some_iff.mp h2
  subst h4
  refine ent σ H _ ⟨B, Hf, ρ, r, er, h1, fun v Hf' H' g' q => ?_⟩
  obtain ⟨Hf2, g2, s2, d2⟩ := q.freeze er g' h3
  exact k _ Hf2 H' (g2.gb er.bh) ((er.grow g2).set i d2)
theorem ER.setO {K : PySem.W.Frag} {B Hf H : Hp} {σ : L2.St} {ρ : Rho} {p : Addr} {vs : List V} {xs : List PyData} (er : ER K B Hf H σ ρ) (i : Nat) (h1 : Hf p = none) (h2 : B p = none) (h3 : H p = some (.lst vs)) (h4 : DpAll K Hf vs xs)
    (hn : ∀ (j : Nat) (ys : List PyData), ρ[j]? = some (Slot.own ys) → σ[j]? ≠ some (some (V.ref p))) : ER K B Hf H (σ.set i (some (.ref p))) (ρ.set i (.own xs)) := by
  refine ⟨er.fh, er.bh, by rw [List.length_set, List.length_set]; exact er.len, fun j s o q1 q2 => ?_, fun j k ys zs p' hjk q1 q2 q3 q4 => ?_⟩
  · by_cases z : i = j
    · subst z
      by_cases hi : i < ρ.length
      · rw [List.getElem?_set_self hi] at q1
        rw [List.getElem?_set_self (by rw [er.len]; exact hi)] at q2
        cases q1; cases q2
        exact ⟨p, vs, rfl, h1, h2, h3, h4⟩
      · rw [List.getElem?_eq_none (by rw [List.length_set]; omega)] at q1
        cases q1
    · rw [List.getElem?_set_ne z] at q1 q2
      exact er.sl j s o q1 q2
  · have self : ∀ {j : Nat} {ys : List PyData} {p' : Addr}, i = j → (ρ.set i (Slot.own xs))[j]? = some (.own ys) → (σ.set i (some (.ref p)))[j]? = some (some (.ref p')) → p' = p := fun {j ys p'} z r1 r2 => by
      subst z
      by_cases hi : i < ρ.length
      · rw [List.getElem?_set_self (by rw [er.len]; exact hi)] at r2
        cases r2; rfl
      · rw [List.getElem?_eq_none (by rw [List.length_set]; omega)] at r1
        cases r1
    by_cases zj : i = j
    · by_cases zk : i = k
      · exact hjk (zj.symm.trans zk)
      · have := self zj q1 q3
        subst this
        rw [List.getElem?_set_ne zk] at q2 q4
        exact hn k zs q2 q4
    · by_cases zk : i = k
      · have := self zk q2 q4
        subst this
        rw [List.getElem?_set_ne zj] at q1 q3
        exact hn j ys q1 q3
      · rw [List.getElem?_set_ne zj] at q1 q3
        rw [List.getElem?_set_ne zk] at q2 q4
        exact er.dj j k ys zs p' hjk q1 q2 q3 q4
theorem ER.own_there {K : PySem.W.Frag} {B Hf H : Hp} {σ : L2.St} {ρ : Rho} (er : ER K B Hf H σ ρ) {j : Nat} {ys : List PyData} {p : Addr} (h : ρ[j]? = some (.own ys)) (h2 : σ[j]? = some (some (.ref p))) : Hf p = none ∧ B p = none ∧ ∃ vs, H p = some (.lst vs) ∧ DpAll K Hf vs ys := by
  obtain ⟨p', vs, e, a1, a2, a3, a4⟩ := er.sl j _ _ h h2
  cases e
  exact ⟨a1, a2, vs, a3, a4⟩
theorem ent_setO {K : PySem.W.Frag} {te : TE} {i : Nat} (ent : ∀ σ H Q, tD K fa σ H Q → te σ H Q) : ∀ D σ H, tDS K (gSetO i fa) D σ H → tAsg te (gName i) D σ H := fun D σ H h => by
  obtain ⟨B, Hf, ρ, o, er, hg, k⟩ := h
  unfold gSetO at hg
  obtain ⟨r, h1, h2⟩ := Option.bind_eq_some_iff.mp hg
  refine ent σ H _ ⟨B, Hf, ρ, r, er, h1, fun v Hf' H' g' q => ?_⟩
  cases r with
  | nw xs =>
    cases h2
    obtain ⟨p, vs, rfl, h0, h3, h5, h6⟩ := q
    refine k _ Hf' H' (g'.gb er.bh) ((er.grow g').setO i h3 (er.bh.free h0) h5 h6 fun j ys e1 e2 => ?_)
    obtain ⟨_, _, ws, e3, _⟩ := er.own_there e1 e2
    rw [h0] at e3; cases e3
  | fz d => cases h2; exact k _ Hf' H' (g'.gb er.bh) ((er.grow g').set i q)
  | br ys => cases h2
theorem s_set {x : Str} {p : Pos} (i : Nat) (hN : X.N.Nodup) (ha : DE X e fa) (hi : X.N[i]? = some x := by rfl) (hx : Loc X.env.scope x := by first | exact Or.inl rfl | exact Or.inr rfl) (hs : swapsWith e (some (.Name x p)) pos.line X.env = pure false := by rfl) (hf : X.fn x = true ∨ X.env.scope.names.lookup x = some .local := by first | exact .inl rfl | exact .inr rfl | assumption) :
    DS X (.Assign [.Name x p] e pos) (gSet i fa) := ps_mono (ps_set (i := i) hN hi hx ha hs hf) (ent_set fun _ _ _ h => h)
theorem s_setO {x : Str} {p : Pos} (i : Nat) (hN : X.N.Nodup) (ha : DE X e fa) (hi : X.N[i]? = some x := by rfl) (hx : Loc X.env.scope x := by first | exact Or.inl rfl | exact Or.inr rfl) (hs : swapsWith e (some (.Name x p)) pos.line X.env = pure false := by rfl) (hf : X.fn x = true ∨ X.env.scope.names.lookup x = some .local := by first | exact .inl rfl | exact .inr rfl | assumption) :
    DS X (.Assign [.Name x p] e pos) (gSetO i fa) := ps_mono (ps_set (i := i) hN hi hx ha hs hf) (ent_setO fun _ _ _ h => h)
/-- y = [..] -/
theorem s_lc {i : Nat} {y : Str} {py ppos : Pos} {elt : Expr} {ifs : List Expr} {scope : Scope} {it : Rho → Option (List PyData)} {ct : Rho → Option Bool} (j : Nat) (x : Str) (hN : X.N.Nodup) (hi : DJ X tg iter it) (ok : blkC X.N X.env.scope scope [(x, j)] = true)
    (hg : ∀ (s : Shared) (H : Hp) (C : Addr) (cl : List (Str × Addr)) (fp : List Addr), PG (X.blk s H scope (compEnvC scope cl C X.env) fp) tg (gName j))
    (ht : ∀ (s : Shared) (H : Hp) (C : Addr) (cl : List (Str × Addr)) (fp : List Addr), DTs (X.blk s H scope (compEnvC scope cl C X.env) fp) ifs ct)
    (he : ∀ (s : Shared) (H : Hp) (C : Addr) (cl : List (Str × Addr)) (fp : List Addr), DE (X.blk s H scope (compEnvC scope cl C X.env) fp) elt fa)
    (hyi : X.N[i]? = some y) (hyl : X.env.scope.names.lookup y = some .local) (hsw : swapsWith (.ListComp elt [⟨tg, iter, ifs, 0⟩] scope ppos) (some (.Name y py)) pos.line X.env = pure true) (hc : X.calm = true) (hs : ∀ x, foldedSetIterable iter X.env x = pure x) :
    PS X (.Assign [.Name y py] (.ListComp elt [⟨tg, iter, ifs, 0⟩] scope ppos) pos) (tAsg (tLc (tDJ X.K it) (gName j) (tDT X.K ct) (tD X.K fa) [j]) (gName i)) :=
  ps_setLc (own := [(x, j)]) hc hN hyi hyl hsw hi (blkOk_by ok) hg ht he hs
theorem s_setLc {y : Str} {py ppos : Pos} {elt : Expr} {ifs : List Expr} {scope : Scope} {it : Rho → Option (List PyData)} {ct : Rho → Option Bool} (i j : Nat) (x : Str) (hN : X.N.Nodup) (hi : DJ X tg iter it) (ok : blkC X.N X.env.scope scope [(x, j)] = true)
    (hg : ∀ (s : Shared) (H : Hp) (C : Addr) (cl : List (Str × Addr)) (fp : List Addr), PG (X.blk s H scope (compEnvC scope cl C X.env) fp) tg (gName j))
    (ht : ∀ (s : Shared) (H : Hp) (C : Addr) (cl : List (Str × Addr)) (fp : List Addr), DTs (X.blk s H scope (compEnvC scope cl C X.env) fp) ifs ct)
    (he : ∀ (s : Shared) (H : Hp) (C : Addr) (cl : List (Str × Addr)) (fp : List Addr), DE (X.blk s H scope (compEnvC scope cl C X.env) fp) elt fa)
    (hyi : X.N[i]? = some y := by rfl) (hyl : X.env.scope.names.lookup y = some .local := by rfl) (hsw : swapsWith (.ListComp elt [⟨tg, iter, ifs, 0⟩] scope ppos) (some (.Name y py)) pos.line X.env = pure true := by exact sw_true rfl rfl rfl (by decide +kernel)) (hc : X.calm = true := by rfl) (hs : ∀ x, foldedSetIterable iter X.env x = pure x := by intro _; rfl) :
    DS X (.Assign [.Name y py] (.ListComp elt [⟨tg, iter, ifs, 0⟩] scope ppos) pos) (gSet i (fLc it j ct fa [j])) := ps_mono (s_lc j x hN hi ok hg ht he hyi hyl hsw hc hs) (ent_set lc_ent)
theorem s_setLcO {y : Str} {py ppos : Pos} {elt : Expr} {ifs : List Expr} {scope : Scope} {it : Rho → Option (List PyData)} {ct : Rho → Option Bool} (i j : Nat) (x : Str) (hN : X.N.Nodup) (hi : DJ X tg iter it) (ok : blkC X.N X.env.scope scope [(x, j)] = true)
    (hg : ∀ (s : Shared) (H : Hp) (C : Addr) (cl : List (Str × Addr)) (fp : List Addr), PG (X.blk s H scope (compEnvC scope cl C X.env) fp) tg (gName j))
    (ht : ∀ (s : Shared) (H : Hp) (C : Addr) (cl : List (Str × Addr)) (fp : List Addr), DTs (X.blk s H scope (compEnvC scope cl C X.env) fp) ifs ct)
    (he : ∀ (s : Shared) (H : Hp) (C : Addr) (cl : List (Str × Addr)) (fp : List Addr), DE (X.blk s H scope (compEnvC scope cl C X.env) fp) elt fa)
    (hyi : X.N[i]? = some y := by rfl) (hyl : X.env.scope.names.lookup y = some .local := by rfl) (hsw : swapsWith (.ListComp elt [⟨tg, iter, ifs, 0⟩] scope ppos) (some (.Name y py)) pos.line X.env = pure true := by exact sw_true rfl rfl rfl (by decide +kernel)) (hc : X.calm = true := by rfl) (hs : ∀ x, foldedSetIterable iter X.env x = pure x := by intro _; rfl) :
    DS X (.Assign [.Name y py] (.ListComp elt [⟨tg, iter, ifs, 0⟩] scope ppos) pos) (gSetO i (fLc it j ct fa [j])) := ps_mono (s_lc j x hN hi ok hg ht he hyi hyl hsw hc hs) (ent_setO lc_ent)
/-- a, b = e -/
def gAsg (u : FU) (f : FE) : FS := fun ρ => (f ρ).bind fun r => r.fr.bind fun d => (u d ρ).map .nx
theorem s_asg {u : FU} (ha : DE X e fa) (hg : DG X tg u) (hs : swapsWithSole [tg] e pos.line X.env = pure false := by rfl) (hw : swappedStores [tg] e X.env = pure none := by rfl)
    (h1 : (assignEach [tg] X.env).map (·.2) = [assign tg X.env] := by rfl) : DS X (.Assign [tg] e pos) (gAsg u fa) := ps_mono (ps_asg ha hg hs hw h1) fun D σ H h => by
  obtain ⟨B, Hf, ρ, o, er, hg, k⟩ := h
  unfold gAsg at hg
  obtain ⟨r, h1, h2⟩ := Option.bind_eq_some_iff.mp hg
  obtain ⟨d, h3, h4⟩ := Option.bind_eq_some_iff.mp h2
  obtain ⟨ρ1, h5, h6⟩ := Option.map_eq_some_iff.mp h4
  subst h6
  refine ⟨B, Hf, ρ, r, er, h1, fun v Hf' H' g' q => ?_⟩
  obtain ⟨Hf2, g2, s2, d2⟩ := q.freeze er g' h3
  exact ⟨B, Hf2, ρ, d, ρ1, er.grow g2, d2, h5, fun σ' er' => k σ' Hf2 H' (g2.gb er.bh) er'⟩
/-- a, b = x, y, written on both sides -/
def gPar (i j : Nat) (fs : FA) : FS := fun ρ => (fs ρ).bind fun rs => (frs rs).bind fun ds => match ds with
  | [x, y] => some (.nx ((ρ.set i (.d x)).set j (.d y)))
  | _ => none
theorem s_par {x y : Str} {px py pt pt2 : Pos} {kt k2} (i j : Nat) (hN : X.N.Nodup) (ha : DA X [a, b] fs) (hij : i ≠ j := by decide) (hi : X.N[i]? = some x := by rfl) (hj : X.N[j]? = some y := by rfl) (hx : X.env.scope.names.lookup x = some .local := by rfl) (hy : X.env.scope.names.lookup y = some .local := by rfl)
    (hw : swappedStores [.Tuple [.Name x px, .Name y py] kt pt] (.Tuple [a, b] k2 pt2) X.env = pure (some [x, y]) := by rfl) (hs : swapsWithSole [.Tuple [.Name x px, .Name y py] kt pt] (.Tuple [a, b] k2 pt2) pos.line X.env = pure false := by rfl) (hc : X.calm = true := by rfl) :
    DS X (.Assign [.Tuple [.Name x px, .Name y py] kt pt] (.Tuple [a, b] k2 pt2) pos) (gPar i j fs) := ps_mono (ps_par (i := i) (j := j) hc hN hi hj hij hx hy ha hw hs) fun D σ H h => by
  obtain ⟨B, Hf, ρ, o, er, hg, k⟩ := h
  unfold gPar at hg
  obtain ⟨rs, h1, h2⟩ := Option.bind_eq_some_iff.mp hg
  obtain ⟨ds, h3, h4⟩ := Option.bind_eq_some_iff.mp h2
  refine ⟨B, Hf, ρ, rs, er, h1, fun vs Hf' H' g' q => ?_⟩
  obtain ⟨Hf2, g2, s2, d2⟩ := RRs.freeze er g' q h3
  split at h4
  · cases h4
    cases d2 with
    | cons a1 t1 =>
      cases t1 with
      | cons a2 t2 =>
        cases t2
        exact ⟨_, _, rfl, k _ Hf2 H' (g2.gb er.bh) (((er.grow g2).set i a1).set j a2)⟩
  · cases h4
/-- x += e -/
def gAug (i : Nat) (h : PyData → PyData → Option PyData) (f : FE) : FS := fun ρ => match ρ[i]? with
  | some (.d x) => (f ρ).bind fun r => (h x r.rd).map fun d => .nx (ρ.set i (.d d))
  | _ => none
def hAdd : PyData → PyData → Option PyData
  | .int i, .int j => some (.int (i + j))
  | _, _ => none
def hSub : PyData → PyData → Option PyData
  | .int i, .int j => some (.int (i - j))
  | _, _ => none
theorem s_augI {x : Str} {p : Pos} {op : Operator} {h2 : Int → Int → Int} {h : PyData → PyData → Option PyData} (i : Nat) (hN : X.N.Nodup) (ho : PIp X op (rI0 fun i j => .int (h2 i j))) (hh : ∀ x y d, h x y = some d → ∃ i j, x = .int i ∧ y = .int j ∧ d = .int (h2 i j)) (ha : DE X e fa) (hi : X.N[i]? = some x := by rfl) (hx : Loc X.env.scope x := by first | exact Or.inl rfl | exact Or.inr rfl) (hf : X.fn x = true ∨ X.env.scope.names.lookup x = some .local := by first | exact .inl rfl | exact .inr rfl | assumption) :
    DS X (.AugAssign (.Name x p) op e pos) (gAug i h fa) := ps_mono (ps_aug (i := i) hN hi hx ha ho hf) fun D σ H q => by
  obtain ⟨B, Hf, ρ, o, er, hg, k⟩ := q
  unfold gAug at hg
  split at hg
  · rename_i x0 hs
    obtain ⟨r, h3, h4⟩ := Option.bind_eq_some_iff.mp hg
    obtain ⟨d, h5, h6⟩ := Option.map_eq_some_iff.mp h4
    subst h6
    obtain ⟨n, m, rfl, e2, rfl⟩ := hh _ _ _ h5
    have hiσ : i < σ.length := by rw [er.len]; exact (List.getElem?_eq_some_iff.mp hs).1
    have hoσ : σ[i]? = some σ[i] := List.getElem?_eq_getElem hiσ
    obtain ⟨v, ev, hd⟩ := er.sl i _ _ hs hoσ
    cases hd
    refine ⟨.int n, by rw [hoσ, ev], B, Hf, ρ, r, er, h3, fun w Hf' H' g' q => ⟨n, m, rfl, q.int e2, ?_⟩⟩
    exact k _ Hf' H' (g'.gb er.bh) ((er.grow g').set i (.int _))
  · cases hg
theorem s_aug_add {x : Str} {p : Pos} (i : Nat) (hN : X.N.Nodup) (ha : DE X e fa) (hi : X.N[i]? = some x := by rfl) (hx : Loc X.env.scope x := by first | exact Or.inl rfl | exact Or.inr rfl) (hf : X.fn x = true ∨ X.env.scope.names.lookup x = some .local := by first | exact .inl rfl | exact .inr rfl | assumption) :
    DS X (.AugAssign (.Name x p) .Add e pos) (gAug i hAdd fa) := s_augI i hN iop_add (fun x y d h => by
  unfold hAdd at h
  split at h
  · cases h; exact ⟨_, _, rfl, rfl, rfl⟩
  · cases h) ha hi hx hf
theorem s_aug_sub {x : Str} {p : Pos} (i : Nat) (hN : X.N.Nodup) (ha : DE X e fa) (hi : X.N[i]? = some x := by rfl) (hx : Loc X.env.scope x := by first | exact Or.inl rfl | exact Or.inr rfl) (hf : X.fn x = true ∨ X.env.scope.names.lookup x = some .local := by first | exact .inl rfl | exact .inr rfl | assumption) :
    DS X (.AugAssign (.Name x p) .Sub e pos) (gAug i hSub fa) := s_augI i hN iop_sub (fun x y d h => by
  unfold hSub at h
  split at h
  · cases h; exact ⟨_, _, rfl, rfl, rfl⟩
  · cases h) ha hi hx hf

/-! ### a slot's own list changed -/
/-- its new content at p -/
theorem ER.put {K : PySem.W.Frag} {B Hf H : Hp} {σ : L2.St} {ρ : Rho} {i : Nat} {p : Addr} {xs ys : List PyData} {vs : List V} (er : ER K B Hf H σ ρ) (h : ρ[i]? = some (.own xs)) (h2 : σ[i]? = some (some (.ref p))) (hd : DpAll K Hf vs ys) : ER K B Hf (upd H p (.lst vs)) σ (ρ.set i (.own ys)) := by
  obtain ⟨a1, a2, ws, a3, a4⟩ := er.own_there h h2
  have hi : i < ρ.length := (List.getElem?_eq_some_iff.mp h).1
  refine ⟨same_mut er.fh a1, same_mut er.bh a2, by rw [List.length_set]; exact er.len, fun j s o q1 q2 => ?_, fun j k zs us p' hjk q1 q2 q3 q4 => ?_⟩
  · by_cases z : i = j
    · subst z
      rw [List.getElem?_set_self hi] at q1
      cases q1
      rw [h2] at q2
      cases q2
      exact ⟨p, vs, rfl, a1, a2, upd_same, hd⟩
    · rw [List.getElem?_set_ne z] at q1
      have q := er.sl j s o q1 q2
      cases s with
      | und => trivial
      | d x => exact q
      | own zs =>
        obtain ⟨p', ws', e, b1, b2, b3, b4⟩ := q
        subst e
        have ne : p' ≠ p := fun z2 => by
          subst z2
          exact er.dj i j xs zs p' z h q1 h2 q2
        exact ⟨p', ws', rfl, b1, b2, by rw [upd_ne ne]; exact b3, b4⟩
  · have back : ∀ {j : Nat} {zs : List PyData}, (ρ.set i (Slot.own ys))[j]? = some (.own zs) → ∃ zs', ρ[j]? = some (.own zs') := fun {j zs} r => by
      by_cases z : i = j
      · subst z; exact ⟨xs, h⟩
      · rw [List.getElem?_set_ne z] at r; exact ⟨zs, r⟩
    obtain ⟨zs', r1⟩ := back q1
    obtain ⟨us', r2⟩ := back q2
    exact er.dj j k zs' us' p' hjk r1 r2 q3 q4
theorem ER.at {K : PySem.W.Frag} {B Hf H : Hp} {σ : L2.St} {ρ : Rho} {i : Nat} {xs : List PyData} (er : ER K B Hf H σ ρ) (h : ρ[i]? = some (.own xs)) : ∃ p, σ[i]? = some (some (.ref p)) := by
  have hiσ : i < σ.length := by rw [er.len]; exact (List.getElem?_eq_some_iff.mp h).1
  have hoσ : σ[i]? = some σ[i] := List.getElem?_eq_getElem hiσ
  obtain ⟨p, vs, e, _⟩ := er.sl i _ _ h hoσ
  exact ⟨p, by rw [hoσ, e]⟩
/-- xs.append(e) -/
def gApp (i : Nat) (f : FE) : FS := fun ρ => match ρ[i]? with
  | some (.own xs) => (f ρ).bind fun r => r.fr.bind fun d => if small xs.length then some (.nx (ρ.set i (.own (xs ++ [d])))) else none
  | _ => none
theorem s_app {x : Str} {p apos cpos : Pos} (i : Nat) (ha : DE X e fa) (hp : PS X (.Expr (.Call (.Attribute (.Name x p) "append" apos) [e] [] cpos) pos) (tDrop (tBM X.K "list" rAppend (tVar i) (tCons (tD X.K fa) tNil)))) :
    DS X (.Expr (.Call (.Attribute (.Name x p) "append" apos) [e] [] cpos) pos) (gApp i fa) := ps_mono hp fun D σ H q => by
  obtain ⟨B, Hf, ρ, o, er, hg, k⟩ := q
  unfold gApp at hg
  split at hg
  · rename_i xs hs
    obtain ⟨r, h3, h4⟩ := Option.bind_eq_some_iff.mp hg
    obtain ⟨d, h5, h6⟩ := Option.bind_eq_some_iff.mp h4
    split at h6
    · rename_i hz
      cases h6
      obtain ⟨l, hl⟩ := er.at hs
      obtain ⟨a1, a2, ws, a3, a4⟩ := er.own_there hs hl
      refine ⟨.ref l, hl, .inl ⟨rfl, _, SqL.of a3⟩, B, Hf, ρ, r, er, h3, fun v Hf' H' g' q => ?_⟩
      obtain ⟨Hf2, g2, s2, d2⟩ := q.freeze er g' h5
      have er2 := er.grow g2
      obtain ⟨b1, b2, ws2, b3, b4⟩ := er2.own_there hs hl
      refine ⟨l, ws2, v, rfl, rfl, b3, by rw [dpa_len b4]; exact Nat.lt_of_le_of_lt hz (by decide), ?_⟩
      exact k _ Hf2 _ (g2.gb er.bh) (er2.put hs hl (dpa_app b4 (.cons d2 .nil)))
    · cases h6
  · cases hg
/-- xs[j] = e -/
def gPut (i : Nat) (fj : FE) (f : FE) : FS := fun ρ => (f ρ).bind fun r => r.fr.bind fun d => (fj ρ).bind fun j => match ρ[i]?, j.rd with
  | some (.own xs), .int n => (ixN xs.length n).map fun m => .nx (ρ.set i (.own (xs.set m d)))
  | _, _ => none
theorem s_put {x : Str} {p tpos : Pos} (i : Nat) (ha : DE X e fa) (hb : DE X b fb) (hp : PS X (.Assign [.Subscript (.Name x p) b tpos] e pos) (tAsg (tD X.K fa) (gSub (tVar i) (tD X.K fb) rSetL))) :
    DS X (.Assign [.Subscript (.Name x p) b tpos] e pos) (gPut i fb fa) := ps_mono hp fun D σ H q => by
  obtain ⟨B, Hf, ρ, o, er, hg, k⟩ := q
  unfold gPut at hg
  obtain ⟨r, h3, h4⟩ := Option.bind_eq_some_iff.mp hg
  obtain ⟨d, h5, h6⟩ := Option.bind_eq_some_iff.mp h4
  obtain ⟨j, h7, h8⟩ := Option.bind_eq_some_iff.mp h6
  split at h8
  · rename_i xs n hs hj
    obtain ⟨m, h9, h10⟩ := Option.map_eq_some_iff.mp h8
    subst h10
    refine ⟨B, Hf, ρ, r, er, h3, fun v Hf' H' g' q => ?_⟩
    obtain ⟨Hf2, g2, s2, d2⟩ := q.freeze er g' h5
    have er2 := er.grow g2
    obtain ⟨l, hl⟩ := er2.at hs
    refine ⟨.ref l, hl, B, Hf2, ρ, j, er2, h7, fun w Hf3 H3 g3 q3 => ?_⟩
    have er3 := er2.grow g3
    obtain ⟨b1, b2, ws2, b3, b4⟩ := er3.own_there hs hl
    refine ⟨l, ws2, n, m, rfl, q3.int hj, b3, by rw [dpa_len b4]; exact h9, ?_⟩
    exact k _ Hf3 _ ((g2.trans g3).gb er.bh) (er3.put hs hl (dpa_set (dp_mono g3.f _ _ d2) m b4))
  · cases h8
/-- a slot's own list is left as it is from here on -/
def frz (i : Nat) (ρ : Rho) : Rho := match ρ[i]? with
  | some (.own xs) => ρ.set i (.d (.list xs))
  | _ => ρ
theorem ER.frz {K : PySem.W.Frag} {B Hf H : Hp} {σ : L2.St} {ρ : Rho} (er : ER K B Hf H σ ρ) (i : Nat) : ∃ Hf2, GB B Hf Hf2 ∧ ER K B Hf2 H σ (DL.frz i ρ) := by
  unfold DL.frz
  split
  · rename_i xs hs
    obtain ⟨p, hp⟩ := er.at hs
    obtain ⟨a1, a2, ws, a3, a4⟩ := er.own_there hs hp
    have hi : i < ρ.length := (List.getElem?_eq_some_iff.mp hs).1
    refine ⟨upd Hf p (.lst ws), ⟨same_upd a1, fun a o e n => by rw [upd_ne (ne_of_none e a2)]; exact n⟩, fun a o e => ?_, er.bh, by rw [List.length_set]; exact er.len, fun j s o q1 q2 => ?_, fun j k ys zs p' hjk q1 q2 q3 q4 => ?_⟩
    · by_cases z : a = p
      · subst z; rw [upd_same] at e; cases e; exact a3
      · rw [upd_ne z] at e; exact er.fh _ _ e
    · by_cases z : i = j
      · subst z
        rw [List.getElem?_set_self hi] at q1
        cases q1
        rw [hp] at q2
        cases q2
        exact ⟨_, rfl, .lst (SqL.of upd_same) (dpa_mono (same_upd a1) _ _ a4)⟩
      · rw [List.getElem?_set_ne z] at q1
        have q := er.sl j s o q1 q2
        cases s with
        | und => trivial
        | d x => obtain ⟨v, e, hd⟩ := q; exact ⟨v, e, dp_mono (same_upd a1) _ _ hd⟩
        | own zs =>
          obtain ⟨p', ws', e, b1, b2, b3, b4⟩ := q
          subst e
          have ne : p' ≠ p := fun z2 => by
            subst z2
            exact er.dj i j xs zs p' z hs q1 hp q2
          exact ⟨p', ws', rfl, by rw [upd_ne ne]; exact b1, b2, b3, dpa_mono (same_upd a1) _ _ b4⟩
    · have back : ∀ {j : Nat} {zs : List PyData}, (ρ.set i (Slot.d (.list xs)))[j]? = some (.own zs) → ρ[j]? = some (.own zs) := fun {j zs} r => by
        by_cases z : i = j
        · subst z; rw [List.getElem?_set_self hi] at r; cases r
        · rw [List.getElem?_set_ne z] at r; exact r
      exact er.dj j k ys zs p' hjk (back q1) (back q2) q3 q4
  · exact ⟨Hf, GB.refl, er⟩
theorem s_frz (i : Nat) (h : DS X st g) : DS X st (fun ρ => g (frz i ρ)) := ps_mono h fun D σ H q => by
  obtain ⟨B, Hf, ρ, o, er, hg, k⟩ := q
  obtain ⟨Hf2, g2, er2⟩ := er.frz i
  exact ⟨B, Hf2, _, o, er2, hg, k.more g2⟩

/-! ### loops -/
def forD (u : FU) (body : FS) : List PyData → Rho → Option Out
  | [], ρ => some (.nx ρ)
  | x :: xs, ρ => (u x ρ).bind fun ρ1 => (body ρ1).bind fun o => match o with
    | .nx ρ2 => forD u body xs ρ2
    | .ct ρ2 => forD u body xs ρ2
    | .bk ρ2 => some (.nx ρ2)
    | .rt d => some (.rt d)
def gFor (it : Rho → Option (List PyData)) (u : FU) (body : FS) : FS := fun ρ => (it ρ).bind fun xs => forD u body xs ρ
theorem s_for {it : Rho → Option (List PyData)} {u : FU} {body : List Stmt} (hi : DI X tg iter it) (hg : DG X tg u) (hb : DSs X body g) (hp : PassesOwn (model X.prog X.w) X.A X.env X.xe := by exact PassesOwn.never) (hc : X.calm = true := by rfl) (hs : ∀ x, foldedSetIterable iter X.env x = pure x := by intro _; rfl) :
    DS X (.For tg iter body [] pos) (gFor it u g) := ps_mono (ps_for hp hc hi hg hb hs) fun D σ H h => by
  obtain ⟨B, Hf, ρ, o, er, hg, k⟩ := h
  unfold gFor at hg
  obtain ⟨xs, h1, h2⟩ := Option.bind_eq_some_iff.mp hg
  refine ⟨B, Hf, ρ, xs, er, h1, fun J Hf1 H1 g1 I1 => ?_⟩
  have gb1 := g1.gb er.bh
  let P : Nat → L2.St → Hp → Prop := fun i σ' H' => ∃ Hg ρ', GB B Hf1 Hg ∧ ER X.K B Hg H' σ' ρ' ∧ forD u g (xs.drop i) ρ' = some o
  refine ⟨fun i m σ' H' => m = xs.length - i ∧ i ≤ xs.length ∧ P i σ' H', ⟨xs.length, by simp, Nat.zero_le _, Hf1, ρ, GB.refl, er.grow g1, by rw [List.drop_zero]; exact h2⟩, ?_⟩
  rintro i m σ2 H2 ⟨rfl, hi, Hg, ρ2, gb, er2, hl⟩
  have s2 : Same Hf1 H2 := gb.f.trans er2.fh
  by_cases hlt : i < xs.length
  · refine .inr ⟨I1.go i H2 s2 hlt, P (i + 1), fun σ' H' p => ⟨xs.length - (i + 1), by omega, rfl, hlt, p⟩, fun x H3 y => ?_⟩
    obtain ⟨Hg3, g3, dx⟩ := I1.yld i H2 x H3 Hg xs[i] s2 gb.f er2.fh (getE hlt) y
    rw [List.drop_eq_getElem_cons hlt] at hl
    unfold forD at hl
    obtain ⟨ρ3, h3, h4⟩ := Option.bind_eq_some_iff.mp hl
    obtain ⟨o4, h5, h6⟩ := Option.bind_eq_some_iff.mp h4
    have er3 := er2.grow g3
    have gb3 : GB B Hf1 Hg3 := gb.trans (g3.gb er2.bh)
    refine ⟨B, Hg3, ρ2, xs[i], ρ3, er3, dx, h3, fun σ4 er4 => ⟨B, Hg3, ρ3, o4, er4, h5, ?_⟩⟩
    cases o4 with
    | nx ρ5 => exact fun σ' Hf' H' g' er' => ⟨Hf', ρ5, gb3.trans g', er', h6⟩
    | ct ρ5 => exact fun σ' Hf' H' g' er' => ⟨Hf', ρ5, gb3.trans g', er', h6⟩
    | bk ρ5 =>
      cases h6
      exact fun σ' Hf' H' g' er' => k σ' Hf' H' ((gb1.trans gb3).trans g') er'
    | rt d =>
      cases h6
      exact fun v Hf' H' g' e1 e2 dp => k v Hf' H' ((gb1.trans gb3).trans g') e1 e2 dp
  · have ei : i = xs.length := by omega
    subst ei
    rw [List.drop_length] at hl
    cases hl
    exact .inl ⟨I1.stop _ H2 s2 (Nat.le_refl _), k σ2 Hg H2 (gb1.trans gb) er2⟩
def whD (c : Rho → Option Bool) (body : FS) : Nat → Rho → Option Out
  | 0, _ => none
  | n + 1, ρ => (c ρ).bind fun b => if b = true then (body ρ).bind fun o => match o with
    | .nx ρ2 => whD c body n ρ2
    | .ct ρ2 => whD c body n ρ2
    | .bk ρ2 => some (.nx ρ2)
    | .rt d => some (.rt d)
    else some (.nx ρ)
def gWh (m : Rho → Nat) (c : Rho → Option Bool) (body : FS) : FS := fun ρ => whD c body (m ρ) ρ
theorem s_while (m : Rho → Nat) {body : List Stmt} (ht : DT X c t) (hb : DSs X body g) (hp : PassesOwn (model X.prog X.w) X.A X.env X.xe := by exact PassesOwn.never) : DS X (.While c body [] pos) (gWh m t g) := ps_mono (ps_while hp ht hb) fun D σ H h => by
  obtain ⟨B, Hf, ρ, o, er, hg, k⟩ := h
  unfold gWh at hg
  let P : Nat → L2.St → Hp → Prop := fun n σ' H' => ∃ Hg ρ', GB B Hf Hg ∧ ER X.K B Hg H' σ' ρ' ∧ whD t g n ρ' = some o
  refine ⟨P, ⟨m ρ, Hf, ρ, GB.refl, er, hg⟩, ?_⟩
  rintro n σ2 H2 ⟨Hg, ρ2, gb, er2, hl⟩
  cases n with
  | zero => cases hl
  | succ n =>
    unfold whD at hl
    obtain ⟨bb, h3, h4⟩ := Option.bind_eq_some_iff.mp hl
    refine ⟨B, Hg, ρ2, bb, er2, h3, fun Hf3 H3 g3 => ?_⟩
    have er3 := er2.grow g3
    have gb3 : GB B Hf Hf3 := gb.trans (g3.gb er2.bh)
    cases bb with
    | true =>
      rw [if_pos rfl] at h4
      obtain ⟨o4, h5, h6⟩ := Option.bind_eq_some_iff.mp h4
      refine iteT ?_
      refine ⟨P n, fun σ' H' p => ⟨n, Nat.lt_succ_self _, p⟩, B, Hf3, ρ2, o4, er3, h5, ?_⟩
      cases o4 with
      | nx ρ5 => exact fun σ' Hf' H' g' er' => ⟨Hf', ρ5, gb3.trans g', er', h6⟩
      | ct ρ5 => exact fun σ' Hf' H' g' er' => ⟨Hf', ρ5, gb3.trans g', er', h6⟩
      | bk ρ5 =>
        cases h6
        exact fun σ' Hf' H' g' er' => k σ' Hf' H' (gb3.trans g') er'
      | rt d =>
        cases h6
        exact fun v Hf' H' g' e1 e2 dp => k v Hf' H' (gb3.trans g') e1 e2 dp
    | false =>
      rw [if_neg Bool.false_ne_true] at h4
      cases h4
      exact iteF (k σ2 Hf3 H3 gb3 er3)
end

/-! ### defs -/
abbrev FD := List PyData → Option PyData
def spD (K : PySem.W.Frag) (n : Nat) (F : FD) : Sp := fun vs H Q _ => ∃ Hf ds d, Same Hf H ∧ DpAll K Hf vs ds ∧ ds.length = n ∧ F ds = some d ∧ ∀ v Hf' H', Gr Hf H Hf' H' → Dp K Hf' v d → Q v H'
def startR (n : Nat) (ds : List PyData) : Rho := ds.map Slot.d ++ List.replicate (n - ds.length) .und
def runD (n : Nat) (g : FS) : FD := fun ds => (g (startR n ds)).bind fun o => match o with
  | .rt d => some d
  | .nx _ => some .none
  | _ => none
theorem er_start {K : PySem.W.Frag} {Hf H : Hp} {N : List Str} {vs : List V} {ds : List PyData} (e : Same Hf H) (h : DpAll K Hf vs ds) : ER K H Hf H (L2.start N vs) (startR N.length ds) := by
  have hl := dpa_len h
  have noOwn : ∀ {i : Nat} {xs : List PyData}, (startR N.length ds)[i]? = some (.own xs) → False := fun {i xs} q => by
    unfold startR at q
    by_cases hi : i < ds.length
    · rw [List.getElem?_append_left (by simpa using hi), List.getElem?_map] at q
      obtain ⟨d, _, e2⟩ := Option.map_eq_some_iff.mp q
      cases e2
    · rw [List.getElem?_append_right (by simpa using hi), List.getElem?_replicate] at q
      split at q <;> cases q
  refine ⟨e, Same.refl _, ?_, fun i s o h1 h2 => ?_, fun i j xs ys p _ h1 _ _ _ => noOwn h1⟩
  · unfold L2.start startR
    rw [List.length_append, List.length_append, List.length_map, List.length_map, List.length_replicate, List.length_replicate, hl]
  · unfold startR at h1
    unfold L2.start at h2
    by_cases hi : i < ds.length
    · rw [List.getElem?_append_left (by simpa using hi), List.getElem?_map] at h1
      rw [List.getElem?_append_left (by simp; omega), List.getElem?_map] at h2
      obtain ⟨d, e1, rfl⟩ := Option.map_eq_some_iff.mp h1
      obtain ⟨v, e2, rfl⟩ := Option.map_eq_some_iff.mp h2
      obtain ⟨w, e3, hd⟩ := dpa_get h e1
      rw [e2] at e3
      cases e3
      exact ⟨v, rfl, hd⟩
    · rw [List.getElem?_append_right (by simpa using hi), List.getElem?_replicate] at h1
      split at h1
      · cases h1; trivial
      · cases h1
section
variable {P : Program} {w : World} {K : PySem.W.Frag} {mg : Str → Option Value} {base : Heap}
/-- THE RULE for a def that raises nothing -/
theorem def_ok {x qual : Str} {st : Stmt} {f : Addr} {fd : FuncData} {N ps : List Str} {k : Nat} {g : FS} (F : Fun K x qual st f fd) (S : FnScope N ps (defScope st))
    (hbody : ∀ (cdv : Value) (A : Around) (outer : List Env) (s : Shared) (H : Hp) (E : XK), Room k (A.deeper (envOfC qual (defScope st) s.heap.objs.size f cdv)) → DSs (cxOf CX0 P w K mg base N qual (defScope st) f cdv A outer s H E).nox (defBody st) g) :
    FnOk P w K mg base CX0 (k + 1) f fd ps (spD K ps.length (runD N.length g)) := by
  refine F.ok S (fun vs H Q E h => ?_) (fun cdv A outer s H vs Q E hr h => ?_)
  · obtain ⟨Hf, ds, d, e, hd, hl, _⟩ := h
    rw [dpa_len hd, hl]
  · obtain ⟨Hf, ds, d, e, hd, hl, hF, q⟩ := h
    refine ⟨_, hbody cdv A outer s H E hr, ?_⟩
    unfold runD at hF
    obtain ⟨o, h1, h2⟩ := Option.bind_eq_some_iff.mp hF
    have er : ER K H Hf H (L2.start N vs) (startR N.length ds) := er_start e hd
    refine ⟨H, Hf, _, o, er, h1, ?_⟩
    cases o with
    | rt d' =>
      cases h2
      exact fun v Hf' H' g' e1 e2 dp => q v Hf' H' ⟨g'.f, e2, e1, g'.un⟩ dp
    | nx ρ' =>
      cases h2
      exact fun σ' Hf' H' g' er' => q .non Hf' H' ⟨g'.f, er'.bh, er'.fh, g'.un⟩ .non
    | bk _ => cases h2
    | ct _ => cases h2
theorem spD_imp {CX : CXT} {k n : Nat} {f : Addr} {fd : FuncData} {ps : List Str} {F G : FD} (h : FnOk P w K mg base CX k f fd ps (spD K n F)) (e : ∀ ds d, ds.length = n → G ds = some d → F ds = some d) : FnOk P w K mg base CX k f fd ps (spD K n G) :=
  h.imp fun vs H Q E q => by
    obtain ⟨Hf, ds, d, h1, h2, h3, h4, h5⟩ := q
    exact ⟨Hf, ds, d, h1, h2, h3, e ds d h3 h4, h5⟩
end
section
variable {X : Cx} {e : Expr} {es : List Expr} {fs : FA} {pos p : Pos} {k n : Nat} {f : Addr} {fd : FuncData} {ps : List Str} {F : FD} {x : Str}
def fCall (F : FD) (fs : FA) : FE := fun ρ => (fs ρ).bind fun rs => (frs rs).bind fun ds => (F ds).map .fz
theorem ent_call {K : PySem.W.Frag} {E : XK} (hn : ∀ rs, (∃ ρ, fs ρ = some rs) → rs.length = n) : ∀ σ H Q, tD K (fCall F fs) σ H Q → tCall (spD K n F) [] E (tDA K fs) σ H Q := fun σ H Q h => by
  obtain ⟨B, Hf, ρ, r, er, hf, q⟩ := h
  unfold fCall at hf
  obtain ⟨rs, h1, h2⟩ := Option.bind_eq_some_iff.mp hf
  obtain ⟨ds, h3, h4⟩ := Option.bind_eq_some_iff.mp h2
  obtain ⟨d, h5, h6⟩ := Option.map_eq_some_iff.mp h4
  subst h6
  refine ⟨B, Hf, ρ, rs, er, h1, fun vs Hf' H' g' qq => ?_⟩
  obtain ⟨Hf2, g2, s2, d2⟩ := RRs.freeze er g' qq h3
  have hl : ds.length = n := by
    rw [← hn rs ⟨ρ, h1⟩]
    clear h5 qq d2 h1 h4 h2 hf
    induction rs generalizing ds with
    | nil => cases h3; rfl
    | cons r rs ih =>
      unfold frs at h3
      obtain ⟨x, e1, e2⟩ := Option.bind_eq_some_iff.mp h3
      obtain ⟨ys, e3, e4⟩ := Option.map_eq_some_iff.mp e2
      subst e4
      rw [List.length_cons, List.length_cons, ih ys e3]
  show spD K n F (vs ++ []) H' Q E
  rw [List.append_nil]
  exact ⟨Hf2, ds, d, g2.fh, d2, hl, h5, fun v Hf3 H3 g3 dp => q v Hf3 H3 (g2.trans g3) dp⟩
/-- the number of written arguments -/
def ALen (fs : FA) (n : Nat) : Prop := ∀ rs, (∃ ρ, fs ρ = some rs) → rs.length = n
theorem al_nil : ALen aNil 0 := fun rs h => by
  obtain ⟨ρ, e⟩ := h
  cases e; rfl
theorem al_cons {fa : FE} (h : ALen fs n) : ALen (aCons fa fs) (n + 1) := fun rs q => by
  obtain ⟨ρ, e⟩ := q
  unfold aCons at e
  obtain ⟨x, h1, h2⟩ := Option.bind_eq_some_iff.mp e
  obtain ⟨y, h3, h4⟩ := Option.map_eq_some_iff.mp h2
  subst h4
  rw [List.length_cons, h y ⟨ρ, h3⟩]
theorem d_call (G : FnOk X.prog X.w X.K X.mg X.base CX0 k f fd ps (spD X.K n F)) (hr : Room k X.A) (hm : X.mg x = some (.ref f)) (hk : PySem.W.keepIn X.K (.ref f) = true) (hb : Binds X.K fd ps []) (ha : DA X (e :: es) fs) (hn : ALen fs n)
    (hg : Gl X x := by rfl) (hdb : (x == ("__debug__" : Str)) = false := by decide) (he : starEach (e :: es) X.env = (false, eval e X.env) :: starEach es X.env := by rfl) (hpl : (backTo pos (starEach es X.env)).any (·.1) = false := by rfl) :
    DE X (.Call (.Name x p) (e :: es) [] pos) (fCall F fs) := pe_mono (pe_call G hr hg hm hk hb .nil pass0 ha hdb he hpl) (ent_call hn)
end
end DL
/-! the combinators, turned into plain terms -/
namespace DL
open PySem PySem.Spec PyProof.Rows L2
@[simp] theorem ite_bind {α β : Type} {p : Prop} [Decidable p] (x y : Option α) (f : α → Option β) : (if p then x else y).bind f = if p then x.bind f else y.bind f := by split <;> rfl
@[simp] theorem ite_map {α β : Type} {p : Prop} [Decidable p] (x y : Option α) (f : α → β) : (if p then x else y).map f = if p then x.map f else y.map f := by split <;> rfl
section
variable {ρ : Rho} {f fa fb fc : FE} {fs : FA} {g g1 g2 : FS} {t u : Rho → Option Bool} {i j : Int} {a b : PyData} {r : Res} {xs ys : List PyData} {n k : Nat}
@[simp] theorem rd_fz : (Res.fz a).rd = a := (rfl)
@[simp] theorem rd_nw : (Res.nw xs).rd = .list xs := (rfl)
@[simp] theorem rd_br : (Res.br xs).rd = .list xs := (rfl)
@[simp] theorem fr_fz : (Res.fz a).fr = some a := (rfl)
@[simp] theorem fr_nw : (Res.nw xs).fr = some (.list xs) := (rfl)
@[simp] theorem fr_br : (Res.br xs).fr = none := (rfl)
def rdS : Option Slot → Option Res
  | some (.d x) => some (.fz x)
  | some (.own xs) => some (.br xs)
  | _ => none
@[simp] theorem rdS_d : rdS (some (.d a)) = some (.fz a) := (rfl)
@[simp] theorem rdS_own : rdS (some (.own xs)) = some (.br xs) := (rfl)
@[simp] theorem fVar_eq : fVar n ρ = rdS ρ[n]? := by
  unfold fVar rdS
  cases h : ρ[n]? with
  | none => rfl
  | some s => cases s <;> rfl
@[simp] theorem fC_eq : fC a ρ = some (.fz a) := (rfl)
@[simp] theorem f2_eq {h : PyData → PyData → Option Res} : f2 h fa fb ρ = (fa ρ).bind fun x => (fb ρ).bind fun y => h x.rd y.rd := (rfl)
@[simp] theorem f1_eq {h : PyData → Option Res} : f1 h fa ρ = (fa ρ).bind fun x => h x.rd := (rfl)
def toB : PyData → Option Bool
  | .bool b => some b
  | _ => none
@[simp] theorem toB_b {b : Bool} : toB (.bool b) = some b := (rfl)
@[simp] theorem fB_eq : fB f ρ = (f ρ).bind fun r => toB r.rd := by
  unfold fB
  congr 1
@[simp] theorem fTru_eq : fTru f ρ = (f ρ).bind fun r => tru r.rd := (rfl)
@[simp] theorem tru_none : tru .none = some false := (rfl)
@[simp] theorem tru_bool {b : Bool} : tru (.bool b) = some b := (rfl)
@[simp] theorem tru_int : tru (.int i) = some (i != 0) := (rfl)
@[simp] theorem tru_list : tru (.list xs) = some (!xs.isEmpty) := (rfl)
@[simp] theorem tru_tuple : tru (.tuple xs) = some (!xs.isEmpty) := (rfl)
@[simp] theorem tNotF_eq : tNotF t ρ = (t ρ).map (!·) := (rfl)
@[simp] theorem tAndF_eq : tAndF t u ρ = (t ρ).bind fun a => if a = true then u ρ else some false := (rfl)
@[simp] theorem tOrF_eq : tOrF t u ρ = (t ρ).bind fun a => if a = true then some true else u ρ := (rfl)
@[simp] theorem fAnd_eq : fAnd fa fb ρ = (fa ρ).bind fun a => (tru a.rd).bind fun k => if k = true then fb ρ else some a := (rfl)
@[simp] theorem fOr_eq : fOr fa fb ρ = (fa ρ).bind fun a => (tru a.rd).bind fun k => if k = true then some a else fb ρ := (rfl)
@[simp] theorem fNot_eq : fNot fa ρ = (fa ρ).bind fun a => (tru a.rd).map fun k => .fz (.bool (!k)) := (rfl)
@[simp] theorem fIf_eq : fIf t fa fb ρ = (t ρ).bind fun k => if k = true then fa ρ else fb ρ := (rfl)
@[simp] theorem aNil_eq : aNil ρ = some [] := (rfl)
@[simp] theorem aCons_eq : aCons f fs ρ = (f ρ).bind fun r => (fs ρ).map fun rs => r :: rs := (rfl)
@[simp] theorem frs_nil : frs [] = some [] := (rfl)
@[simp] theorem frs_cons {rs : List Res} : frs (r :: rs) = r.fr.bind fun x => (frs rs).map fun xs => x :: xs := (rfl)
@[simp] theorem fTup_eq : fTup fs ρ = (fs ρ).bind fun rs => (frs rs).bind fun xs => if small xs.length then some (.fz (.tuple xs)) else none := (rfl)
@[simp] theorem fLst_eq : fLst fs ρ = (fs ρ).bind fun rs => (frs rs).bind fun xs => if small xs.length then some (.nw xs) else none := (rfl)
@[simp] theorem gAdd_int : gAdd (.int i) (.int j) = some (.fz (.int (i + j))) := (rfl)
@[simp] theorem gAdd_list : gAdd (.list xs) (.list ys) = if small (xs.length + ys.length) then some (.nw (xs ++ ys)) else none := (rfl)
@[simp] theorem gAdd_tuple : gAdd (.tuple xs) (.tuple ys) = if small (xs.length + ys.length) then some (.fz (.tuple (xs ++ ys))) else none := (rfl)
@[simp] theorem gMinus_int : gMinus (.int i) (.int j) = some (.fz (.int (i - j))) := (rfl)
@[simp] theorem gDiv_int : gDiv (.int i) (.int j) = if 0 < j ∧ j < 2 ^ 200 then some (.fz (.int (i / j))) else none := (rfl)
@[simp] theorem gMod_int : gMod (.int i) (.int j) = if 0 < j then some (.fz (.int (i % j))) else none := (rfl)
@[simp] theorem gPow_int : gPow (.int i) (.int j) = if 0 ≤ j ∧ j ≤ 1000000 ∧ i.natAbs < 2 ^ 64 then some (.fz (.int (i ^ j.toNat))) else none := (rfl)
@[simp] theorem gMul_int : gMul (.int i) (.int j) = if CMul i j then some (.fz (.int (i * j))) else none := (rfl)
@[simp] theorem gMul_tuple : gMul (.tuple xs) (.int j) = if xs ≠ [] ∧ 2 ≤ j ∧ j ≤ 1000 ∧ xs.length ≤ 1000 then some (.fz (.tuple (List.replicate j.toNat xs).flatten)) else none := (rfl)
@[simp] theorem gLt_int : gLt (.int i) (.int j) = some (.fz (.bool (decide (i < j)))) := (rfl)
@[simp] theorem gLe_int : gLe (.int i) (.int j) = some (.fz (.bool (decide (i ≤ j)))) := (rfl)
@[simp] theorem gGt_int : gGt (.int i) (.int j) = some (.fz (.bool (decide (j < i)))) := (rfl)
@[simp] theorem gGe_int : gGe (.int i) (.int j) = some (.fz (.bool (decide (j ≤ i)))) := (rfl)
@[simp] theorem gNeg_int : gNeg (.int i) = some (.fz (.int (-i))) := (rfl)
@[simp] theorem shaped_none : SeqAt.shaped .none = true := by simp [SeqAt.shaped, PyData.canLay0, PyData.depth]
@[simp] theorem shaped_bool {b : Bool} : SeqAt.shaped (.bool b) = true := by simp [SeqAt.shaped, PyData.canLay0, PyData.depth]
@[simp] theorem shaped_int : SeqAt.shaped (.int i) = true := by simp [SeqAt.shaped, PyData.canLay0, PyData.depth]
@[simp] theorem eqv_int : PyData.eqv (.int i) (.int j) = decide (i = j) := by
  rw [PyData.eqv]; exact Bool.beq_eq_decide_eq _ _
@[simp] theorem eqv_bool {b c : Bool} : PyData.eqv (.bool b) (.bool c) = decide (b = c) := by
  rw [PyData.eqv]; exact Bool.beq_eq_decide_eq _ _
@[simp] theorem eqv_none : PyData.eqv .none .none = true := by rw [PyData.eqv]
@[simp] theorem gEq_eq : gEq a b = if SeqAt.shaped a = true ∧ SeqAt.shaped b = true then some (.fz (.bool (PyData.eqv a b))) else none := (rfl)
@[simp] theorem gNe_eq : gNe a b = if SeqAt.shaped a = true ∧ SeqAt.shaped b = true then some (.fz (.bool (!PyData.eqv a b))) else none := (rfl)
@[simp] theorem gIs_none : gIs a .none = some (.fz (.bool (isNone a))) := by cases a <;> rfl
@[simp] theorem gIs_bool {x y : Bool} : gIs (.bool x) (.bool y) = some (.fz (.bool (decide (x = y)))) := (rfl)
@[simp] theorem gIsNot_none : gIsNot a .none = some (.fz (.bool (!isNone a))) := by cases a <;> rfl
@[simp] theorem gIsNot_bool {x y : Bool} : gIsNot (.bool x) (.bool y) = some (.fz (.bool (!decide (x = y)))) := (rfl)
@[simp] theorem isNone_none : isNone .none = true := (rfl)
@[simp] theorem isNone_int : isNone (.int i) = false := (rfl)
@[simp] theorem isNone_bool {x : Bool} : isNone (.bool x) = false := (rfl)
@[simp] theorem isNone_list : isNone (.list xs) = false := (rfl)
@[simp] theorem isNone_tuple : isNone (.tuple xs) = false := (rfl)
@[simp] theorem flatD_int : flatD (.int i) = true := (rfl)
@[simp] theorem gIn_list {ng : Bool} : gIn ng a (.list ys) = if flatD a = true ∧ ys.all flatD = true then some (.fz (.bool (if ng then !inD a ys else inD a ys))) else none := by cases a <;> rfl
@[simp] theorem gIn_tuple {ng : Bool} : gIn ng a (.tuple ys) = if flatD a = true ∧ ys.all flatD = true then some (.fz (.bool (if ng then !inD a ys else inD a ys))) else none := by cases a <;> rfl
@[simp] theorem gIx_list : gIx (.list xs) (.int i) = (atI xs i).map .fz := (rfl)
@[simp] theorem gIx_tuple : gIx (.tuple xs) (.int i) = (atI xs i).map .fz := (rfl)
@[simp] theorem oNone_eq : oNone ρ = some none := (rfl)
def toI : PyData → Option (Option Int)
  | .int i => some (some i)
  | _ => none
@[simp] theorem toI_i : toI (.int i) = some (some i) := (rfl)
@[simp] theorem oSome_eq : oSome f ρ = (f ρ).bind fun r => toI r.rd := by
  unfold oSome
  congr 1
@[simp] theorem fSl_eq {o1 o2 : Rho → Option (Option Int)} : fSl fa o1 o2 ρ = (fa ρ).bind fun a => (o1 ρ).bind fun lo => (o2 ρ).bind fun hi => gSl a.rd lo hi := (rfl)
@[simp] theorem gSl_list {lo hi : Option Int} : gSl (.list xs) lo hi = some (.nw (cutD xs lo hi)) := (rfl)
@[simp] theorem gSl_tuple {lo hi : Option Int} : gSl (.tuple xs) lo hi = some (.fz (.tuple (cutD xs lo hi))) := (rfl)
@[simp] theorem gRev_list : gRev (.list xs) = some (.nw xs.reverse) := (rfl)
@[simp] theorem gRev_tuple : gRev (.tuple xs) = some (.fz (.tuple xs.reverse)) := (rfl)
@[simp] theorem fC1_eq {h : List PyData → Option Res} : fC1 h fs ρ = (fs ρ).bind fun rs => h (rs.map Res.rd) := (rfl)
@[simp] theorem gLen_list : gLen [.list xs] = some (.fz (.int xs.length)) := (rfl)
@[simp] theorem gLen_tuple : gLen [.tuple xs] = some (.fz (.int xs.length)) := (rfl)
@[simp] theorem gAbs_int : gAbs [.int i] = some (.fz (.int (if i < 0 then -i else i))) := (rfl)
@[simp] theorem gInt_int : gInt [.int i] = some (.fz (.int i)) := (rfl)
@[simp] theorem gInt_bool {b : Bool} : gInt [.bool b] = some (.fz (.int (if b then 1 else 0))) := (rfl)
@[simp] theorem gTuple_list : gTuple [.list xs] = some (.fz (.tuple xs)) := (rfl)
@[simp] theorem gTuple_tuple : gTuple [.tuple xs] = some (.fz (.tuple xs)) := (rfl)
@[simp] theorem gList_list : gList [.list xs] = some (.nw xs) := (rfl)
@[simp] theorem gList_tuple : gList [.tuple xs] = some (.nw xs) := (rfl)
@[simp] theorem gSum_list : gSum [.list xs] = (intsOf xs).map fun ns => .fz (.int ns.sum) := (rfl)
@[simp] theorem gAll_list : gAll [.list xs] = (boolsOf xs).map fun ns => .fz (.bool (ns.all id)) := (rfl)
@[simp] theorem gAny_list : gAny [.list xs] = (boolsOf xs).map fun ns => .fz (.bool (ns.any id)) := (rfl)
@[simp] theorem gMin_list : gMin [.list xs] = (intsOf xs).bind fun ns => if ns = [] then none else some (.fz (.int (minL ns))) := (rfl)
@[simp] theorem gMax_list : gMax [.list xs] = (intsOf xs).bind fun ns => if ns = [] then none else some (.fz (.int (maxL ns))) := (rfl)
@[simp] theorem gMin_two : gMin [.int i, .int j] = some (.fz (.int (if j < i then j else i))) := (rfl)
@[simp] theorem gMax_two : gMax [.int i, .int j] = some (.fz (.int (if j > i then j else i))) := (rfl)
@[simp] theorem intsOf_m {ns : List Int} : intsOf (ns.map PyData.int) = some ns := intsOf_map ns
@[simp] theorem boolsOf_m {ns : List Bool} : boolsOf (ns.map PyData.bool) = some ns := boolsOf_map ns
theorem kit_ii : kitB "int" "int" = some true := by decide +kernel
theorem kit_bi : kitB "bool" "int" = some true := by decide +kernel
theorem kit_ni : kitB "NoneType" "int" = some false := by decide +kernel
theorem kit_li : kitB "list" "int" = some false := by decide +kernel
theorem kit_ti : kitB "tuple" "int" = some false := by decide +kernel
theorem kit_ib : kitB "int" "bool" = some false := by decide +kernel
theorem kit_bb : kitB "bool" "bool" = some true := by decide +kernel
theorem kit_nb : kitB "NoneType" "bool" = some false := by decide +kernel
theorem kit_lb : kitB "list" "bool" = some false := by decide +kernel
theorem kit_tb : kitB "tuple" "bool" = some false := by decide +kernel
theorem kit_it : kitB "int" "tuple" = some false := by decide +kernel
theorem kit_bt : kitB "bool" "tuple" = some false := by decide +kernel
theorem kit_nt : kitB "NoneType" "tuple" = some false := by decide +kernel
theorem kit_lt : kitB "list" "tuple" = some false := by decide +kernel
theorem kit_tt : kitB "tuple" "tuple" = some true := by decide +kernel
theorem kit_il : kitB "int" "list" = some false := by decide +kernel
theorem kit_bl : kitB "bool" "list" = some false := by decide +kernel
theorem kit_nl : kitB "NoneType" "list" = some false := by decide +kernel
theorem kit_ll : kitB "list" "list" = some true := by decide +kernel
theorem kit_tl : kitB "tuple" "list" = some false := by decide +kernel
def isI : PyData → Bool | .int _ => true | .bool _ => true | _ => false
def isB : PyData → Bool | .bool _ => true | _ => false
def isT : PyData → Bool | .tuple _ => true | _ => false
def isL : PyData → Bool | .list _ => true | _ => false
/-- plain data of the kinds met here -/
def okD : PyData → Bool | .str _ => false | .dict _ => false | _ => true
theorem gIsi_int (h : okD a = true) : gIsi "int" a = some (.fz (.bool (isI a))) := by
  cases a <;> first
    | (exact absurd h Bool.false_ne_true)
    | (unfold gIsi kindS; simp only [kit_ii, kit_bi, kit_ni, kit_li, kit_ti]; rfl)
theorem gIsi_bool (h : okD a = true) : gIsi "bool" a = some (.fz (.bool (isB a))) := by
  cases a <;> first
    | (exact absurd h Bool.false_ne_true)
    | (unfold gIsi kindS; simp only [kit_ib, kit_bb, kit_nb, kit_lb, kit_tb]; rfl)
theorem gIsi_tuple (h : okD a = true) : gIsi "tuple" a = some (.fz (.bool (isT a))) := by
  cases a <;> first
    | (exact absurd h Bool.false_ne_true)
    | (unfold gIsi kindS; simp only [kit_it, kit_bt, kit_nt, kit_lt, kit_tt]; rfl)
theorem gIsi_list (h : okD a = true) : gIsi "list" a = some (.fz (.bool (isL a))) := by
  cases a <;> first
    | (exact absurd h Bool.false_ne_true)
    | (unfold gIsi kindS; simp only [kit_il, kit_bl, kit_nl, kit_ll, kit_tl]; rfl)
@[simp] theorem isi_ii : gIsi "int" (.int i) = some (.fz (.bool true)) := gIsi_int rfl
@[simp] theorem isi_bi {b : Bool} : gIsi "int" (.bool b) = some (.fz (.bool true)) := gIsi_int rfl
@[simp] theorem isi_ni : gIsi "int" .none = some (.fz (.bool false)) := gIsi_int rfl
@[simp] theorem isi_li : gIsi "int" (.list xs) = some (.fz (.bool false)) := gIsi_int rfl
@[simp] theorem isi_ti : gIsi "int" (.tuple xs) = some (.fz (.bool false)) := gIsi_int rfl
@[simp] theorem isi_ib : gIsi "bool" (.int i) = some (.fz (.bool false)) := gIsi_bool rfl
@[simp] theorem isi_bb {b : Bool} : gIsi "bool" (.bool b) = some (.fz (.bool true)) := gIsi_bool rfl
@[simp] theorem isi_nb : gIsi "bool" .none = some (.fz (.bool false)) := gIsi_bool rfl
@[simp] theorem isi_lb : gIsi "bool" (.list xs) = some (.fz (.bool false)) := gIsi_bool rfl
@[simp] theorem isi_tb : gIsi "bool" (.tuple xs) = some (.fz (.bool false)) := gIsi_bool rfl
@[simp] theorem isi_it : gIsi "tuple" (.int i) = some (.fz (.bool false)) := gIsi_tuple rfl
@[simp] theorem isi_bt {b : Bool} : gIsi "tuple" (.bool b) = some (.fz (.bool false)) := gIsi_tuple rfl
@[simp] theorem isi_nt : gIsi "tuple" .none = some (.fz (.bool false)) := gIsi_tuple rfl
@[simp] theorem isi_lt : gIsi "tuple" (.list xs) = some (.fz (.bool false)) := gIsi_tuple rfl
@[simp] theorem isi_tt : gIsi "tuple" (.tuple xs) = some (.fz (.bool true)) := gIsi_tuple rfl
@[simp] theorem isi_il : gIsi "list" (.int i) = some (.fz (.bool false)) := gIsi_list rfl
@[simp] theorem isi_bl {b : Bool} : gIsi "list" (.bool b) = some (.fz (.bool false)) := gIsi_list rfl
@[simp] theorem isi_nl : gIsi "list" .none = some (.fz (.bool false)) := gIsi_list rfl
@[simp] theorem isi_ll : gIsi "list" (.list xs) = some (.fz (.bool true)) := gIsi_list rfl
@[simp] theorem isi_tl : gIsi "list" (.tuple xs) = some (.fz (.bool false)) := gIsi_list rfl
def itS : Res → Option (List PyData)
  | .fz (.list xs) => some xs
  | .fz (.tuple xs) => some xs
  | .nw xs => some xs
  | _ => none
@[simp] theorem itS_l : itS (.fz (.list xs)) = some xs := (rfl)
@[simp] theorem itS_t : itS (.fz (.tuple xs)) = some xs := (rfl)
@[simp] theorem itS_n : itS (.nw xs) = some xs := (rfl)
@[simp] theorem itF_eq : itF f ρ = (f ρ).bind itS := by
  unfold itF
  congr 1
def itQ : PyData → Option (List PyData)
  | .list xs => some xs
  | .tuple xs => some xs
  | _ => none
@[simp] theorem itQ_l : itQ (.list xs) = some xs := (rfl)
@[simp] theorem itQ_t : itQ (.tuple xs) = some xs := (rfl)
@[simp] theorem itR_eq : itR f ρ = (f ρ).bind fun r => itQ r.rd := by
  unfold itR
  congr 1
def rgS : List PyData → Option (List PyData)
  | [.int j] => if -(2 ^ 62) ≤ j ∧ j < 2 ^ 62 then some (rgD 0 j.toNat) else none
  | [.int i, .int j] => if -(2 ^ 62) ≤ i ∧ i < 2 ^ 62 ∧ -(2 ^ 62) ≤ j ∧ j < 2 ^ 62 then some (rgD i (j - i).toNat) else none
  | _ => none
theorem rgS_1 : rgS [.int j] = if -(2 ^ 62) ≤ j ∧ j < 2 ^ 62 then some (rgD 0 j.toNat) else none := rfl
theorem rgS_2 : rgS [.int i, .int j] = if -(2 ^ 62) ≤ i ∧ i < 2 ^ 62 ∧ -(2 ^ 62) ≤ j ∧ j < 2 ^ 62 then some (rgD i (j - i).toNat) else none := rfl
def rg1S : List PyData → Option (List PyData)
  | [.int j] => if -(2 ^ 62) ≤ j ∧ j < 2 ^ 62 then some (rgD 0 j.toNat) else none
  | _ => none
def rg2S : List PyData → Option (List PyData)
  | [.int i, .int j] => if -(2 ^ 62) ≤ i ∧ i < 2 ^ 62 ∧ -(2 ^ 62) ≤ j ∧ j < 2 ^ 62 then some (rgD i (j - i).toNat) else none
  | _ => none
theorem rg1S_1 : rg1S [.int j] = if -(2 ^ 62) ≤ j ∧ j < 2 ^ 62 then some (rgD 0 j.toNat) else none := rfl
theorem rg2S_2 : rg2S [.int i, .int j] = if -(2 ^ 62) ≤ i ∧ i < 2 ^ 62 ∧ -(2 ^ 62) ≤ j ∧ j < 2 ^ 62 then some (rgD i (j - i).toNat) else none := rfl
theorem rg1_ok (h : 0 ≤ j) (h2 : j ≤ 1000000) : rg1S [.int j] = some (rgD 0 j.toNat) := by
  rw [rg1S_1, if_pos ⟨by omega, by omega⟩]
theorem rg1_nat {m : Nat} (h2 : m ≤ 1000000) : rg1S [.int (m : Int)] = some (rgD 0 m) := by
  rw [rg1_ok (by omega) (by omega), Int.toNat_natCast]
theorem rg2_ok (h : 0 ≤ i) (h2 : i ≤ 1000000) (h3 : 0 ≤ j) (h4 : j ≤ 1000000) : rg2S [.int i, .int j] = some (rgD i (j - i).toNat) := by
  rw [rg2S_2, if_pos ⟨by omega, by omega, by omega, by omega⟩]
@[simp] theorem rg1_eq : rg1 fs ρ = (fs ρ).bind fun rs => rg1S (rs.map Res.rd) := by
  unfold rg1
  congr 1
@[simp] theorem rg2_eq : rg2 fs ρ = (fs ρ).bind fun rs => rg2S (rs.map Res.rd) := by
  unfold rg2
  congr 1
def enS : List Res → Option (List PyData)
  | [.fz (.list xs)] => some (enD 0 xs)
  | [.nw xs] => some (enD 0 xs)
  | _ => none
@[simp] theorem enS_l : enS [.fz (.list xs)] = some (enD 0 xs) := (rfl)
@[simp] theorem enS_n : enS [.nw xs] = some (enD 0 xs) := (rfl)
@[simp] theorem enF_eq : enF fs ρ = (fs ρ).bind enS := by
  unfold enF
  congr 1
@[simp] theorem uName_eq : uName n a ρ = some (ρ.set n (.d a)) := (rfl)
@[simp] theorem uNil_eq : uNil [] ρ = some ρ := (rfl)
@[simp] theorem uCons_eq {us : FUs} {u : FU} : uCons u us (a :: xs) ρ = (u a ρ).bind fun ρ1 => us xs ρ1 := (rfl)
@[simp] theorem uTup_t {us : FUs} : uTup n us (.tuple xs) ρ = if xs.length = n then us xs ρ else none := (rfl)
@[simp] theorem uTup_l {us : FUs} : uTup n us (.list xs) ρ = if xs.length = n then us xs ρ else none := (rfl)
@[simp] theorem cYes_eq : cYes ρ = some true := (rfl)
@[simp] theorem gNil_eq : gNil ρ = some (.nx ρ) := (rfl)
def thn' (g : FS) : Out → Option Out
  | .nx ρ' => g ρ'
  | o => some o
@[simp] theorem thn_nx : thn' g (.nx ρ) = g ρ := (rfl)
@[simp] theorem thn_rt : thn' g (.rt a) = some (.rt a) := (rfl)
@[simp] theorem thn_bk : thn' g (.bk ρ) = some (.bk ρ) := (rfl)
@[simp] theorem thn_ct : thn' g (.ct ρ) = some (.ct ρ) := (rfl)
@[simp] theorem gSeq_eq : gSeq g1 g2 ρ = (g1 ρ).bind (thn' g2) := by
  unfold gSeq
  congr 1
@[simp] theorem gBk_eq : gBk ρ = some (.bk ρ) := (rfl)
@[simp] theorem gCt_eq : gCt ρ = some (.ct ρ) := (rfl)
@[simp] theorem gRet_eq : gRet f ρ = (f ρ).map fun r => .rt r.rd := (rfl)
@[simp] theorem gRetN_eq : gRetN ρ = some (.rt .none) := (rfl)
@[simp] theorem gIf_eq : gIf t g1 g2 ρ = (t ρ).bind fun b => if b = true then g1 ρ else g2 ρ := (rfl)
@[simp] theorem gDrop_eq : gDrop f ρ = (f ρ).map fun _ => .nx ρ := (rfl)
@[simp] theorem gSet_eq : gSet n f ρ = (f ρ).bind fun r => r.fr.map fun d => .nx (ρ.set n (.d d)) := (rfl)
def ownS : Res → Option Slot
  | .nw xs => some (.own xs)
  | .fz d => some (.d d)
  | .br _ => none
@[simp] theorem ownS_n : ownS (.nw xs) = some (.own xs) := (rfl)
@[simp] theorem ownS_f : ownS (.fz a) = some (.d a) := (rfl)
@[simp] theorem gSetO_eq : gSetO n f ρ = (f ρ).bind fun r => (ownS r).map fun s => .nx (ρ.set n s) := by
  unfold gSetO
  congr 1
  funext r
  cases r <;> rfl
@[simp] theorem gAsg_eq {u : FU} : gAsg u f ρ = (f ρ).bind fun r => r.fr.bind fun d => (u d ρ).map .nx := (rfl)
def parS (n k : Nat) (ρ : Rho) : List PyData → Option Out
  | [x, y] => some (.nx ((ρ.set n (.d x)).set k (.d y)))
  | _ => none
@[simp] theorem parS_2 : parS n k ρ [a, b] = some (.nx ((ρ.set n (.d a)).set k (.d b))) := (rfl)
@[simp] theorem gPar_eq : gPar n k fs ρ = (fs ρ).bind fun rs => (frs rs).bind (parS n k ρ) := by
  unfold gPar
  congr 1
def augS : Option Slot → Option PyData
  | some (.d x) => some x
  | _ => none
@[simp] theorem augS_d : augS (some (.d a)) = some a := (rfl)
@[simp] theorem gAug_eq {h : PyData → PyData → Option PyData} : gAug n h f ρ = (augS ρ[n]?).bind fun x => (f ρ).bind fun r => (h x r.rd).map fun d => .nx (ρ.set n (.d d)) := by
  unfold gAug augS
  cases hs : ρ[n]? with
  | none => rfl
  | some s => cases s <;> rfl
@[simp] theorem hAdd_int : hAdd (.int i) (.int j) = some (.int (i + j)) := (rfl)
@[simp] theorem hSub_int : hSub (.int i) (.int j) = some (.int (i - j)) := (rfl)
def ownL : Option Slot → Option (List PyData)
  | some (.own xs) => some xs
  | _ => none
@[simp] theorem ownL_o : ownL (some (.own xs)) = some xs := (rfl)
@[simp] theorem gApp_eq : gApp n f ρ = (ownL ρ[n]?).bind fun xs => (f ρ).bind fun r => r.fr.bind fun d => if small xs.length then some (.nx (ρ.set n (.own (xs ++ [d])))) else none := by
  unfold gApp ownL
  cases hs : ρ[n]? with
  | none => rfl
  | some s => cases s <;> rfl
def putS (n : Nat) (ρ : Rho) (d : PyData) : PyData → Option Out
  | .int m => (ownL ρ[n]?).bind fun xs => (ixN xs.length m).map fun q => .nx (ρ.set n (.own (xs.set q d)))
  | _ => none
@[simp] theorem putS_i : putS n ρ a (.int j) = (ownL ρ[n]?).bind fun xs => (ixN xs.length j).map fun q => .nx (ρ.set n (.own (xs.set q a))) := (rfl)
@[simp] theorem gPut_eq : gPut n fb f ρ = (f ρ).bind fun r => r.fr.bind fun d => (fb ρ).bind fun j => putS n ρ d j.rd := by
  unfold gPut
  congr 1
  funext r
  congr 1
  funext d
  congr 1
  funext j
  unfold putS ownL
  cases hs : ρ[n]? with
  | none => cases j.rd <;> rfl
  | some s => cases s <;> cases j.rd <;> rfl
def endS : Out → Option PyData
  | .rt d => some d
  | .nx _ => some .none
  | _ => none
@[simp] theorem endS_r : endS (.rt a) = some a := (rfl)
@[simp] theorem endS_n : endS (.nx ρ) = some .none := (rfl)
theorem runD_eq : runD n g xs = (g (startR n xs)).bind endS := by
  unfold runD
  congr 1
@[simp] theorem startR_eq : startR n xs = xs.map Slot.d ++ List.replicate (n - xs.length) .und := (rfl)
@[simp] theorem fCall_eq {F : FD} : fCall F fs ρ = (fs ρ).bind fun rs => (frs rs).bind fun ds => (F ds).map .fz := (rfl)
@[simp] theorem gFor_eq {it : Rho → Option (List PyData)} {u : FU} : gFor it u g ρ = (it ρ).bind fun xs => forD u g xs ρ := (rfl)
@[simp] theorem fLc_eq {it : Rho → Option (List PyData)} {vs : List Nat} : fLc it n t f vs ρ = (it ρ).bind fun xs => if small xs.length then (lcD n t f (wipeR ρ vs) xs).map fun ds => .nw ds else none := (rfl)
@[simp] theorem wipeR_nil : wipeR ρ [] = ρ := (rfl)
@[simp] theorem wipeR_cons {vs : List Nat} : wipeR ρ (n :: vs) = (wipeR ρ vs).set n .und := (rfl)
/-- a comprehension, item by item -/
def flG (c : PyData → Bool) (h : PyData → PyData) (xs : List PyData) : List PyData := (xs.filter c).map h
theorem lcD_map {c : PyData → Bool} {h : PyData → PyData} : ∀ {xs : List PyData}, (∀ x ∈ xs, t (ρ.set n (.d x)) = some (c x)) → (∀ x ∈ xs, c x = true → (f (ρ.set n (.d x))).bind Res.fr = some (h x)) → lcD n t f ρ xs = some ((xs.filter c).map h)
  | [], _, _ => rfl
  | x :: xs, h1, h2 => by
    have ih := lcD_map (xs := xs) (fun y hy => h1 y (List.mem_cons_of_mem _ hy)) (fun y hy => h2 y (List.mem_cons_of_mem _ hy))
    unfold lcD
    rw [h1 x List.mem_cons_self, Option.bind_some]
    cases hc : c x with
    | true =>
      have q := h2 x List.mem_cons_self hc
      obtain ⟨r, e1, e2⟩ := Option.bind_eq_some_iff.mp q
      rw [if_pos rfl, e1, Option.bind_some, e2, Option.bind_some, ih, List.filter_cons, if_pos hc]
      rfl
    | false =>
      rw [if_neg Bool.false_ne_true, ih, List.filter_cons, if_neg (by rw [hc]; exact Bool.false_ne_true)]
end
/-! ### the law's own end -/
def spLaw (K : PySem.W.Frag) : Sp := fun vs H Q _ => ∃ (a : Addr) (ns : List Int), vs = [.ref a] ∧ SqL K H a (ns.map V.int) ∧ ns.length ≤ 63 ∧ ∀ H', Q (.bl true) H'
theorem law_of {P : Program} {w : World} {K : PySem.W.Frag} {mg : Str → Option Value} {base : Heap} {CX : CXT} {k : Nat} {f : Addr} {fd : FuncData} {F : FD} (h : FnOk P w K mg base CX k f fd ["script"] (spD K 1 F))
    (e : ∀ ns : List Int, ns.length ≤ 63 → F [.list (ns.map PyData.int)] = some (.bool true)) : FnOk P w K mg base CX k f fd ["script"] (spLaw K) :=
  h.imp fun vs H Q E q => by
    obtain ⟨a, ns, rfl, hS, hl, k⟩ := q
    refine ⟨H, [.list (ns.map PyData.int)], .bool true, Same.refl _, .cons (.lst hS (dpa_ints ns)) .nil, rfl, e ns hl, fun v Hf' H' g d => ?_⟩
    cases d
    exact k H'
/-- a def that is never asked -/
theorem fn_none {P : Program} {w : World} {K : PySem.W.Frag} {mg : Str → Option Value} {base : Heap} {CX : CXT} {k n : Nat} {f : Addr} {fd : FuncData} {ps : List Str} : FnOk P w K mg base CX k f fd ps (spD K n (fun _ => none)) :=
  have no : ∀ vs H Q E, ¬ spD K n (fun _ => none) vs H Q E := fun vs H Q E h => by
    obtain ⟨_, _, _, _, _, _, h4, _⟩ := h
    cases h4
  ⟨fun vs H Q E h => absurd h (no vs H Q E), fun A outer s H args us vs Q E _ _ _ _ h => absurd h (no vs H Q E)⟩
/-- a word of ints as data -/
abbrev wd (ws : List Int) : PyData := .tuple (ws.map PyData.int)
end DL
namespace DL
open PySem PySem.Spec PyProof.Rows L2
section
variable {ρ : Rho} {g : FS} {u : FU} {t : Rho → Option Bool}
/-- a loop that goes through -/
theorem forD_inv {xs : List PyData} (P : Nat → Rho → Prop) (h0 : P 0 ρ) (hs : ∀ i x ρ, xs[i]? = some x → P i ρ → ∃ ρ1 ρ2, u x ρ = some ρ1 ∧ (g ρ1 = some (.nx ρ2) ∨ g ρ1 = some (.ct ρ2)) ∧ P (i + 1) ρ2) :
    ∃ ρ', forD u g xs ρ = some (.nx ρ') ∧ P xs.length ρ' := by
  induction xs generalizing ρ P with
  | nil => exact ⟨ρ, rfl, h0⟩
  | cons x xs ih =>
    obtain ⟨ρ1, ρ2, e1, e2, p⟩ := hs 0 x ρ rfl h0
    obtain ⟨ρ', e3, p'⟩ := ih (fun i => P (i + 1)) p fun i y ρ0 hy hp => hs (i + 1) y ρ0 (by simpa using hy) hp
    refine ⟨ρ', ?_, p'⟩
    unfold forD
    rw [e1, Option.bind_some]
    rcases e2 with e2 | e2 <;> rw [e2, Option.bind_some] <;> exact e3
/-- a loop that goes through or returns -/
theorem forD_inv' {xs : List PyData} (P : Nat → Rho → Prop) (R : PyData → Prop) (h0 : P 0 ρ) (hs : ∀ i x ρ, xs[i]? = some x → P i ρ → ∃ ρ1, u x ρ = some ρ1 ∧ ((∃ ρ2, (g ρ1 = some (.nx ρ2) ∨ g ρ1 = some (.ct ρ2)) ∧ P (i + 1) ρ2) ∨ ∃ d, g ρ1 = some (.rt d) ∧ R d)) :
    (∃ ρ', forD u g xs ρ = some (.nx ρ') ∧ P xs.length ρ') ∨ ∃ d, forD u g xs ρ = some (.rt d) ∧ R d := by
  induction xs generalizing ρ P with
  | nil => exact .inl ⟨ρ, rfl, h0⟩
  | cons x xs ih =>
    obtain ⟨ρ1, e1, h⟩ := hs 0 x ρ rfl h0
    rcases h with ⟨ρ2, e2, p⟩ | ⟨d, e2, p⟩
    · rcases ih (fun i => P (i + 1)) p fun i y ρ0 hy hp => hs (i + 1) y ρ0 (by simpa using hy) hp with ⟨ρ', e3, p'⟩ | ⟨d, e3, p'⟩
      · refine .inl ⟨ρ', ?_, p'⟩
        unfold forD
        rw [e1, Option.bind_some]
        rcases e2 with e2 | e2 <;> rw [e2, Option.bind_some] <;> exact e3
      · refine .inr ⟨d, ?_, p'⟩
        unfold forD
        rw [e1, Option.bind_some]
        rcases e2 with e2 | e2 <;> rw [e2, Option.bind_some] <;> exact e3
    · refine .inr ⟨d, ?_, p⟩
      unfold forD
      rw [e1, Option.bind_some, e2]
      rfl
theorem forD_then {β : Type} {xs : List PyData} {k : Out → Option β} {r : Option β} (P : Nat → Rho → Prop) (h0 : P 0 ρ) (hs : ∀ i x ρ, xs[i]? = some x → P i ρ → ∃ ρ1 ρ2, u x ρ = some ρ1 ∧ (g ρ1 = some (.nx ρ2) ∨ g ρ1 = some (.ct ρ2)) ∧ P (i + 1) ρ2)
    (hk : ∀ ρ', P xs.length ρ' → k (.nx ρ') = r) : (forD u g xs ρ).bind k = r := by
  obtain ⟨ρ', e, p⟩ := forD_inv P h0 hs
  rw [e]
  exact hk ρ' p
theorem forD_then' {β : Type} {xs : List PyData} {k : Out → Option β} {r : Option β} (P : Nat → Rho → Prop) (R : PyData → Prop) (h0 : P 0 ρ) (hs : ∀ i x ρ, xs[i]? = some x → P i ρ → ∃ ρ1, u x ρ = some ρ1 ∧ ((∃ ρ2, (g ρ1 = some (.nx ρ2) ∨ g ρ1 = some (.ct ρ2)) ∧ P (i + 1) ρ2) ∨ ∃ d, g ρ1 = some (.rt d) ∧ R d))
    (hk : ∀ ρ', P xs.length ρ' → k (.nx ρ') = r) (hr : ∀ d, R d → k (.rt d) = r) : (forD u g xs ρ).bind k = r := by
  rcases forD_inv' P R h0 hs with ⟨ρ', e, p⟩ | ⟨d, e, p⟩
  · rw [e]; exact hk ρ' p
  · rw [e]; exact hr d p
/-- a turn goes on (P) or returns (R) -/
def Goes (P : Rho → Prop) (R : PyData → Prop) : Option Out → Prop
  | some (.nx ρ) => P ρ
  | some (.ct ρ) => P ρ
  | some (.rt d) => R d
  | _ => False
@[simp] theorem goes_nx {P : Rho → Prop} {R : PyData → Prop} : Goes P R (some (.nx ρ)) = P ρ := (rfl)
@[simp] theorem goes_ct {P : Rho → Prop} {R : PyData → Prop} : Goes P R (some (.ct ρ)) = P ρ := (rfl)
@[simp] theorem goes_rt {P : Rho → Prop} {R : PyData → Prop} {d : PyData} : Goes P R (some (.rt d)) = R d := (rfl)
theorem forD_go {β : Type} {xs : List PyData} {k : Out → Option β} {r : Option β} (P : Nat → Rho → Prop) (R : PyData → Prop) (h0 : P 0 ρ) (hs : ∀ i x ρ, xs[i]? = some x → P i ρ → Goes (P (i + 1)) R ((u x ρ).bind g))
    (hk : ∀ ρ', P xs.length ρ' → k (.nx ρ') = r) (hr : ∀ d, R d → k (.rt d) = r) : (forD u g xs ρ).bind k = r := by
  refine forD_then' P R h0 (fun i x ρ hx hp => ?_) hk hr
  have q := hs i x ρ hx hp
  cases h1 : u x ρ with
  | none => rw [h1] at q; exact q.elim
  | some ρ1 =>
    rw [h1, Option.bind_some] at q
    refine ⟨ρ1, rfl, ?_⟩
    cases h2 : g ρ1 with
    | none => rw [h2] at q; exact q.elim
    | some o =>
      rw [h2] at q
      cases o with
      | nx ρ2 => exact .inl ⟨ρ2, .inl rfl, q⟩
      | ct ρ2 => exact .inl ⟨ρ2, .inr rfl, q⟩
      | rt d => exact .inr ⟨d, rfl, q⟩
      | bk ρ2 => exact q.elim
/-- a loop that only goes through -/
theorem forD_all {β : Type} {xs : List PyData} {k : Out → Option β} {r : Option β} (P : Nat → Rho → Prop) (h0 : P 0 ρ) (hs : ∀ i x ρ, xs[i]? = some x → P i ρ → Goes (P (i + 1)) (fun _ => False) ((u x ρ).bind g))
    (hk : ∀ ρ', P xs.length ρ' → k (.nx ρ') = r) : (forD u g xs ρ).bind k = r := forD_go P (fun _ => False) h0 hs hk fun _ h => h.elim
theorem rgD_get {lo : Int} {n i : Nat} {x : PyData} (h : (rgD lo n)[i]? = some x) : i < n ∧ x = .int (lo + (i : Int)) := by
  have hi : i < n := by
    have := (List.getElem?_eq_some_iff.mp h).1
    rw [rgD_len] at this
    exact this
  refine ⟨hi, ?_⟩
  unfold rgD at h
  rw [List.getElem?_map, List.getElem?_range hi] at h
  exact (Option.some.inj h).symm
theorem rgD0 (n : Nat) : rgD 0 n = (List.range n).map fun i : Nat => PyData.int (i : Int) := by
  unfold rgD
  congr 1
  funext i
  rw [Int.zero_add]
theorem at_pos {α : Type} {xs : List α} {i : Int} (h : 0 ≤ i) : atI xs i = xs[i.toNat]? := by
  unfold atI ixN
  rw [if_pos h]
  split
  · rfl
  · rw [List.getElem?_eq_none (by omega)]
    rfl
theorem map_get {α β : Type} {f : α → β} {l : List α} {i : Nat} {x : β} (h : (l.map f)[i]? = some x) : ∃ a, l[i]? = some a ∧ x = f a := by
  rw [List.getElem?_map] at h
  obtain ⟨a, h1, h2⟩ := Option.map_eq_some_iff.mp h
  exact ⟨a, h1, h2.symm⟩
end
/-- comprehensions over data that stand for things of a type -/
theorem lcD_gen {α β : Type} {e : α → PyData} {e' : β → PyData} {ρ : Rho} {n : Nat} {t : Rho → Option Bool} {f : FE} (c : α → Bool) (h : α → β) : ∀ {l : List α}, (∀ x ∈ l, t (ρ.set n (.d (e x))) = some (c x)) → (∀ x ∈ l, c x = true → (f (ρ.set n (.d (e x)))).bind Res.fr = some (e' (h x))) → lcD n t f ρ (l.map e) = some (((l.filter c).map h).map e')
  | [], _, _ => rfl
  | x :: xs, h1, h2 => by
    have ih := lcD_gen (e := e) (e' := e') (ρ := ρ) (n := n) (t := t) (f := f) c h (l := xs) (fun y hy => h1 y (List.mem_cons_of_mem _ hy)) (fun y hy => h2 y (List.mem_cons_of_mem _ hy))
    rw [List.map_cons]
    unfold lcD
    rw [h1 x List.mem_cons_self, Option.bind_some]
    cases hc : c x with
    | true =>
      have q := h2 x List.mem_cons_self hc
      obtain ⟨r, e1, e2⟩ := Option.bind_eq_some_iff.mp q
      rw [if_pos rfl, e1, Option.bind_some, e2, Option.bind_some, ih, List.filter_cons, if_pos hc]
      rfl
    | false =>
      rw [if_neg Bool.false_ne_true, ih, List.filter_cons, if_neg (by rw [hc]; exact Bool.false_ne_true)]
theorem lcD_all {α β : Type} {e : α → PyData} {e' : β → PyData} {ρ : Rho} {n : Nat} {t : Rho → Option Bool} {f : FE} (h : α → β) {l : List α} (h1 : ∀ x ∈ l, t (ρ.set n (.d (e x))) = some true) (h2 : ∀ x ∈ l, (f (ρ.set n (.d (e x)))).bind Res.fr = some (e' (h x))) : lcD n t f ρ (l.map e) = some ((l.map h).map e') := by
  have q := lcD_gen (e := e) (e' := e') (f := f) (fun _ => true) h h1 (fun x hx _ => h2 x hx)
  rw [q, List.filter_eq_self.mpr (fun _ _ => rfl)]
section
variable {α : Type} {x y z : α} {r : List α}
@[simp] theorem at_0 : atI (x :: r) 0 = some x := atI_nat (j := 0) rfl
@[simp] theorem at_1 : atI (x :: y :: r) 1 = some y := atI_nat (j := 1) rfl
@[simp] theorem at_2 : atI (x :: y :: z :: r) 2 = some z := atI_nat (j := 2) rfl
@[simp] theorem at_if {c : Prop} [Decidable c] : atI [x, y] (if c then 1 else 0) = some (if c then y else x) := by
  split <;> simp
@[simp] theorem at_m1 : atI [x] (-1) = some x := atI_last [] x
@[simp] theorem at_m1' : atI [x, y] (-1) = some y := atI_last [x] y
end
@[simp] theorem enD_map {k : Nat} {ds : List PyData} : (enD k ds).length = ds.length := enD_len k ds
@[simp] theorem int_ite {c : Prop} [Decidable c] {a b : Int} : (if c then PyData.int a else PyData.int b) = PyData.int (if c then a else b) := by split <;> rfl
theorem enD_at {ds : List PyData} {i : Nat} {x : PyData} (h : (enD 0 ds)[i]? = some x) : ∃ d, ds[i]? = some d ∧ x = .tuple [.int (i : Int), d] := by
  rw [enD_get] at h
  obtain ⟨d, h1, h2⟩ := Option.map_eq_some_iff.mp h
  rw [Nat.zero_add] at h2
  exact ⟨d, h1, h2.symm⟩
theorem six_pos {n d : Nat} {k : Int} (h : 0 ≤ k) : HT.sIx n d (some k) = min k.toNat n := by
  show (if k < 0 then (k + (n : Int)).toNat else min k.toNat n) = _
  rw [if_neg (by omega)]
theorem cut_to {α : Type} {xs : List α} {k : Int} (h : 0 ≤ k) : cutD xs none (some k) = xs.take k.toNat := by
  unfold cutD
  rw [six_pos h, HT.sIx_none, List.drop_zero, Nat.sub_zero]
  rcases Nat.le_total k.toNat xs.length with q | q
  · rw [Nat.min_eq_left q]
  · rw [Nat.min_eq_right q, List.take_length, List.take_of_length_le q]
theorem cut_from {α : Type} {xs : List α} {k : Int} (h : 0 ≤ k) : cutD xs (some k) none = xs.drop k.toNat := by
  unfold cutD
  rw [six_pos h, HT.sIx_none]
  rcases Nat.le_total k.toNat xs.length with q | q
  · rw [Nat.min_eq_left q, List.take_of_length_le (by rw [List.length_drop]; omega)]
  · rw [Nat.min_eq_right q, List.drop_length, List.take_nil, List.drop_of_length_le q]
theorem cut_mid {α : Type} {xs : List α} {a b : Int} (h : 0 ≤ a) (h2 : 0 ≤ b) : cutD xs (some a) (some b) = (xs.drop a.toNat).take (b.toNat - a.toNat) := by
  unfold cutD
  rw [six_pos h, six_pos h2]
  rcases Nat.le_total a.toNat xs.length with q | q
  · rw [Nat.min_eq_left q]
    rcases Nat.le_total b.toNat xs.length with r | r
    · rw [Nat.min_eq_left r]
    · rw [Nat.min_eq_right r, List.take_of_length_le (by rw [List.length_drop]; omega), List.take_of_length_le (by rw [List.length_drop]; omega)]
  · rw [Nat.min_eq_right q, List.drop_length, List.take_nil, List.drop_of_length_le q, List.take_nil]
theorem cut_map {α β : Type} {f : α → β} {xs : List α} {a b : Option Int} : cutD (xs.map f) a b = (cutD xs a b).map f := by
  unfold cutD
  rw [List.length_map, List.map_take, List.map_drop]
theorem cut_len {α : Type} {xs : List α} {a b : Option Int} : (cutD xs a b).length ≤ xs.length := by
  unfold cutD
  rw [List.length_take, List.length_drop]
  omega
/-! ### lists of ints -/
@[simp] theorem eqvAll_ints : ∀ {ns ms : List Int}, PyData.eqvAll (ns.map PyData.int) (ms.map PyData.int) = decide (ns = ms)
  | [], [] => by simp [PyData.eqvAll]
  | [], _ :: _ => by simp [PyData.eqvAll]
  | _ :: _, [] => by simp [PyData.eqvAll]
  | n :: ns, m :: ms => by
    rw [List.map_cons, List.map_cons, PyData.eqvAll, eqv_int, eqvAll_ints]
    by_cases h : n = m <;> by_cases h2 : ns = ms <;> simp [h, h2]
@[simp] theorem eqv_ints_t {ns ms : List Int} : PyData.eqv (.tuple (ns.map PyData.int)) (.tuple (ms.map PyData.int)) = decide (ns = ms) := by
  rw [PyData.eqv, eqvAll_ints]
@[simp] theorem eqv_ints_l {ns ms : List Int} : PyData.eqv (.list (ns.map PyData.int)) (.list (ms.map PyData.int)) = decide (ns = ms) := by
  rw [PyData.eqv, eqvAll_ints]
theorem lay_ints : ∀ ns : List Int, PyData.canLayAll0 (ns.map PyData.int) = true
  | [] => by simp [PyData.canLayAll0]
  | n :: ns => by simp [PyData.canLayAll0, PyData.canLay0, lay_ints ns]
theorem depth_ints : ∀ ns : List Int, PyData.depthAll (ns.map PyData.int) = 0
  | [] => by simp [PyData.depthAll]
  | n :: ns => by simp [PyData.depthAll, PyData.depth, depth_ints ns]
@[simp] theorem shaped_ints_t {ns : List Int} : SeqAt.shaped (.tuple (ns.map PyData.int)) = true := by
  simp [SeqAt.shaped, PyData.canLay0, PyData.depth, lay_ints, depth_ints]
@[simp] theorem shaped_ints_l {ns : List Int} : SeqAt.shaped (.list (ns.map PyData.int)) = true := by
  simp [SeqAt.shaped, PyData.canLay0, PyData.depth, lay_ints, depth_ints]
@[simp] theorem shaped_nil_l : SeqAt.shaped (.list []) = true := shaped_ints_l (ns := [])
@[simp] theorem shaped_nil_t : SeqAt.shaped (.tuple []) = true := shaped_ints_t (ns := [])
@[simp] theorem eqv_nil_l {ns : List Int} : PyData.eqv (.list (ns.map PyData.int)) (.list []) = decide (ns = []) := eqv_ints_l (ms := [])
@[simp] theorem eqv_nil_t {ns : List Int} : PyData.eqv (.tuple (ns.map PyData.int)) (.tuple []) = decide (ns = []) := eqv_ints_t (ms := [])
@[simp] theorem flat_ints {ns : List Int} : (ns.map PyData.int).all flatD = true := by
  rw [List.all_map]
  exact List.all_eq_true.mpr fun _ _ => rfl
@[simp] theorem inD_ints {n : Int} {ns : List Int} : inD (.int n) (ns.map PyData.int) = decide (n ∈ ns) := by
  unfold inD
  rw [List.any_map]
  induction ns with
  | nil => simp
  | cons m ns ih =>
    rw [List.any_cons, ih]
    show (PyData.eqv (.int m) (.int n) || _) = _
    rw [eqv_int]
    by_cases h : n = m
    · subst h; simp
    · have h' : ¬ m = n := fun e => h e.symm
      simp [h, h']
end DL
namespace DL
open PySem PySem.Spec PyProof.Rows L2
/-! ### the laws' draws -/
def mixed (c t : Int) : Int :=
  if 10 ^ 18 ≤ c then c else
  let first := (c % 1000003 * 48271 + 69621 * (t + 1)) % 2147483647
  let second := (first * 48271 + c % 999983) % 2147483647
  let third := (second * 69621 + first) % 2147483647
  first + 2147483647 * second + 4611686014132420609 * third
def lstep (v : Int) (k : Nat) (left : Int) : Int := if left = 0 then v + 7919 * ((k : Int) + 1) else left
def lgo (v s : Int) : Nat → Nat → Int → List Int
  | _, 0, _ => []
  | k, n + 1, left =>
    let l := lstep v k left
    let d := l % (2 * s - 2)
    (if s - 1 ≤ d then s - 2 - d else d + 1) :: lgo v s (k + 1) n (l / (2 * s - 2))
def lword (v s m : Int) : List Int := lgo v s 0 (v % (m + 1)).toNat (v / (m + 1))
theorem lgo_mem {v s : Int} (hs : 2 ≤ s) : ∀ {n k : Nat} {left x : Int}, x ∈ lgo v s k n left → x ≠ 0 ∧ -s < x ∧ x < s
  | 0, _, _, _, h => by cases h
  | n + 1, k, left, x, h => by
    unfold lgo at h
    have h1 := Int.emod_nonneg (lstep v k left) (show 2 * s - 2 ≠ 0 by omega)
    have h2 := Int.emod_lt_of_pos (lstep v k left) (show 0 < 2 * s - 2 by omega)
    rcases List.mem_cons.mp h with e | h
    · subst e
      split <;> omega
    · exact lgo_mem hs h
theorem lgo_len {v s : Int} : ∀ {n k : Nat} {left : Int}, (lgo v s k n left).length = n
  | 0, _, _ => rfl
  | n + 1, k, left => by
    unfold lgo
    rw [List.length_cons, lgo_len]
theorem lword_mem {v s m x : Int} (hs : 2 ≤ s) (h : x ∈ lword v s m) : x ≠ 0 ∧ -s < x ∧ x < s := lgo_mem hs h
theorem lword_len {v s m : Int} (hm : 0 ≤ m) : ((lword v s m).length : Int) ≤ m := by
  unfold lword
  rw [lgo_len]
  have h1 := Int.emod_nonneg v (show m + 1 ≠ 0 by omega)
  have h2 := Int.emod_lt_of_pos v (show 0 < m + 1 by omega)
  omega
def lend (v s : Int) : Nat → Nat → Int → Int
  | _, 0, left => left
  | k, n + 1, left => lend v s (k + 1) n (lstep v k left / (2 * s - 2))
theorem lgo_snoc {v s : Int} : ∀ {n k : Nat} {left : Int}, lgo v s k (n + 1) left = lgo v s k n left ++ [if s - 1 ≤ lstep v (k + n) (lend v s k n left) % (2 * s - 2) then s - 2 - lstep v (k + n) (lend v s k n left) % (2 * s - 2) else lstep v (k + n) (lend v s k n left) % (2 * s - 2) + 1]
  | 0, k, left => rfl
  | n + 1, k, left => by
    have ih := lgo_snoc (v := v) (s := s) (n := n) (k := k + 1) (left := lstep v k left / (2 * s - 2))
    have e : k + 1 + n = k + (n + 1) := by omega
    rw [e] at ih
    show _ :: lgo v s (k + 1) (n + 1) _ = _ :: (lgo v s (k + 1) n _ ++ _)
    rw [ih]
    rfl
theorem lend_snoc {v s : Int} : ∀ {n k : Nat} {left : Int}, lend v s k (n + 1) left = lstep v (k + n) (lend v s k n left) / (2 * s - 2)
  | 0, k, left => rfl
  | n + 1, k, left => by
    have ih := lend_snoc (v := v) (s := s) (n := n) (k := k + 1) (left := lstep v k left / (2 * s - 2))
    have e : k + 1 + n = k + (n + 1) := by omega
    rw [e] at ih
    show lend v s (k + 1) (n + 1) _ = _
    rw [ih]
    rfl

def G_mixed : FS := (gSeq (gSet 2 (fC1 gInt (aCons (fVar 0) aNil)))
    (gSeq (gIf (fB (f2 gGe (fVar 2) (f2 gPow (fC (.int 10)) (fC (.int 18))))) (gRet (fVar 2)) DL.gNil)
    (gSeq (gSet 3 (f2 gMod (f2 gAdd (f2 gMul (f2 gMod (fVar 2) (fC (.int 1000003))) (fC (.int 48271))) (f2 gMul (fC (.int 69621)) (f2 gAdd (fVar 1) (fC (.int 1))))) (fC (.int 2147483647))))
    (gSeq (gSet 4 (f2 gMod (f2 gAdd (f2 gMul (fVar 3) (fC (.int 48271))) (f2 gMod (fVar 2) (fC (.int 999983)))) (fC (.int 2147483647))))
    (gSeq (gSet 5 (f2 gMod (f2 gAdd (f2 gMul (fVar 4) (fC (.int 69621))) (fVar 3)) (fC (.int 2147483647))))
    (gRet (f2 gAdd (f2 gAdd (fVar 3) (f2 gMul (fC (.int 2147483647)) (fVar 4))) (f2 gMul (fC (.int 4611686014132420609)) (fVar 5)))))))))
theorem r_mixed (c t : Int) : runD 6 G_mixed [.int c, .int t] = some (.int (mixed c t)) := by
  simp [runD_eq, G_mixed, mixed, CMul]
  split <;> rfl
def G_word : FS := (gSeq (gSetO 3 (fLst aNil))
    (gSeq (gSet 4 (f2 gDiv (fVar 0) (f2 gAdd (fVar 2) (fC (.int 1)))))
    (gSeq (gFor (rg1 (aCons (f2 gMod (fVar 0) (f2 gAdd (fVar 2) (fC (.int 1)))) aNil)) (uName 5) (gSeq (gIf (fB (f2 gEq (fVar 4) (fC (.int 0)))) (gSet 4 (f2 gAdd (fVar 0) (f2 gMul (fC (.int 7919)) (f2 gAdd (fVar 5) (fC (.int 1)))))) DL.gNil)
    (gSeq (gSet 6 (f2 gMod (fVar 4) (f2 gMinus (f2 gMul (fC (.int 2)) (fVar 1)) (fC (.int 2)))))
    (gSeq (gSet 4 (f2 gDiv (fVar 4) (f2 gMinus (f2 gMul (fC (.int 2)) (fVar 1)) (fC (.int 2)))))
    (gApp 3 (f2 gIx (fLst (aCons (f2 gAdd (fVar 6) (fC (.int 1))) (aCons (f2 gMinus (f2 gMinus (fVar 1) (fC (.int 2))) (fVar 6)) aNil))) (fC1 gInt (aCons (f2 gGe (fVar 6) (f2 gMinus (fVar 1) (fC (.int 1)))) aNil))))))))
    (gRet (fC1 gTuple (aCons (fVar 3) aNil))))))
theorem r_word (v s m : Int) (h1 : 2 ≤ s) (h2 : s ≤ 1000) (h3 : 0 ≤ m) (h4 : m ≤ 1000) : runD 7 G_word [.int v, .int s, .int m] = some (.tuple ((lword v s m).map PyData.int)) := by
  have hm1 := Int.emod_nonneg v (show m + 1 ≠ 0 by omega)
  have hm2 := Int.emod_lt_of_pos v (show 0 < m + 1 by omega)
  simp [runD_eq, G_word, Option.bind_assoc]
  refine ⟨⟨by omega, by omega⟩, by omega, ?_⟩
  rw [rg1_ok (by omega) (by omega), Option.bind_some]
  refine forD_then (fun i ρ => ∃ x y, ρ = [Slot.d (PyData.int v), Slot.d (PyData.int s), Slot.d (PyData.int m), Slot.own ((lgo v s 0 i (v / (m + 1))).map PyData.int), Slot.d (PyData.int (lend v s 0 i (v / (m + 1)))), x, y] ∧ i ≤ 1000) ⟨.und, .und, rfl, by omega⟩ ?_ ?_
  · rintro i x ρ hi ⟨y, z, rfl, hb⟩
    obtain ⟨h5, rfl⟩ := rgD_get hi
    have e1 : lgo v s 0 (i + 1) (v / (m + 1)) = _ := lgo_snoc
    have e2 : lend v s 0 (i + 1) (v / (m + 1)) = _ := lend_snoc
    rw [Nat.zero_add] at e1 e2
    have hlen : (lgo v s 0 i (v / (m + 1))).length ≤ 100000 := by rw [lgo_len]; omega
    by_cases hz : lend v s 0 i (v / (m + 1)) = 0
    · refine ⟨_, _, rfl, .inl ?_, ⟨.d (.int (i : Int)), .d (.int (lstep v i (lend v s 0 i (v / (m + 1))) % (2 * s - 2))), rfl, by omega⟩⟩
      simp [CMul, hz, hlen, e1, e2, lstep]
      omega
    · refine ⟨_, _, rfl, .inl ?_, ⟨.d (.int (i : Int)), .d (.int (lstep v i (lend v s 0 i (v / (m + 1))) % (2 * s - 2))), rfl, by omega⟩⟩
      simp [CMul, hz, hlen, e1, e2, lstep]
      omega
  · rintro ρ ⟨x, y, rfl, _⟩
    simp [lword, rgD_len]
end DL
namespace K01
open PySem PySem.Spec PyProof.Rows L2 DL
/-! ### the text -/
def topS (i : Nat) : Stmt := PySem.Challenge.pw_strandsplaited_k01_words_changed.main.body.getD i (.Pass ⟨0, 0, 0, 0⟩)
def k_MOST_STRANDS_n : Int := 8
def k_MOST_STRANDS : PyData := .int k_MOST_STRANDS_n
/-! ### is_word: slots 0 strands, 1 word, 2 letter -/
abbrev s_is_word : Stmt := topS 2
theorem sc_is_word : FnScope ["strands", "word", "letter"] ["strands", "word"] (defScope s_is_word) := ⟨rfl, rfl, rfl, by decide +kernel, rfl, by decide +kernel, by decide +kernel⟩
def g_is_word : FS := (gRet (fC1 gAll (aCons (fLc (itR (fVar 1)) 2 cYes (fAnd (f2 gNe (fVar 2) (fC (.int 0))) (f2 gLt (fC1 gAbs (aCons (fVar 2) aNil)) (fVar 0))) [2]) aNil)))
theorem ok_is_word {P : Program} {w : World} {K : PySem.W.Frag} {mg : Str → Option Value} {base : Heap} {f : Addr} {fd : FuncData} {k : Nat} (F : Fun K "is_word" "is_word" s_is_word f fd) (m_all : mg "all" = none) (m_abs : mg "abs" = none) :
    FnOk P w K mg base CX0 (k + 1) f fd ["strands", "word"] (spD K 2 (runD 3 (g_is_word))) :=
  have nd := (sc_is_word).nd
  def_ok F sc_is_word fun cdv A outer s H E hr =>
  (ss_one (s_ret (d_blt (cr_all rfl) c_all m_all (by decide +kernel) (a_cons (d_lc 2 "letter" nd (j_seq (d_var 1)) (by show blkC ["strands", "word", "letter"] (defScope s_is_word) _ _ = true; decide +kernel) (fun _ _ _ _ _ => pg_name (i := 2) nd rfl (Or.inl rfl)) (fun _ _ _ _ _ => ts_nil) (fun _ _ _ _ _ => (d_and (d_cmp (op_neD hr.units) o_ne (d_var 2) d_int (nomark _)) (d_one (d_cmp op_lt o_lt (d_blt call_abs c_abs m_abs (by decide +kernel) (a_cons (d_var 2) a_nil)) (d_var 0) (nomark _)))))) a_nil))))
/-! ### undone: slots 0 word, 1 letter -/
abbrev s_undone : Stmt := topS 3
theorem sc_undone : FnScope ["word", "letter"] ["word"] (defScope s_undone) := ⟨rfl, rfl, rfl, by decide +kernel, rfl, by decide +kernel, by decide +kernel⟩
def g_undone : FS := (gRet (fC1 gTuple (aCons (fLc (itR (f1 gRev (fVar 0))) 1 cYes (f1 gNeg (fVar 1)) [1]) aNil)))
theorem ok_undone {P : Program} {w : World} {K : PySem.W.Frag} {mg : Str → Option Value} {base : Heap} {f : Addr} {fd : FuncData} {k : Nat} (F : Fun K "undone" "undone" s_undone f fd) (m_tuple : mg "tuple" = none) :
    FnOk P w K mg base CX0 (k + 1) f fd ["word"] (spD K 1 (runD 2 (g_undone))) :=
  have nd := (sc_undone).nd
  def_ok F sc_undone fun cdv A outer s H E hr =>
  (ss_one (s_ret (d_ty call_tuple_of c_tuple m_tuple (by decide +kernel) (a_cons (d_lc 1 "letter" nd (j_seq (d_rev (d_var 0))) (by show blkC ["word", "letter"] (defScope s_undone) _ _ = true; decide +kernel) (fun _ _ _ _ _ => pg_name (i := 1) nd rfl (Or.inl rfl)) (fun _ _ _ _ _ => ts_nil) (fun _ _ _ _ _ => (d_neg (d_var 1)))) a_nil))))
/-! ### mirrored: slots 0 word, 1 letter -/
abbrev s_mirrored : Stmt := topS 4
theorem sc_mirrored : FnScope ["word", "letter"] ["word"] (defScope s_mirrored) := ⟨rfl, rfl, rfl, by decide +kernel, rfl, by decide +kernel, by decide +kernel⟩
def g_mirrored : FS := (gRet (fC1 gTuple (aCons (fLc (itR (fVar 0)) 1 cYes (f1 gNeg (fVar 1)) [1]) aNil)))
theorem ok_mirrored {P : Program} {w : World} {K : PySem.W.Frag} {mg : Str → Option Value} {base : Heap} {f : Addr} {fd : FuncData} {k : Nat} (F : Fun K "mirrored" "mirrored" s_mirrored f fd) (m_tuple : mg "tuple" = none) :
    FnOk P w K mg base CX0 (k + 1) f fd ["word"] (spD K 1 (runD 2 (g_mirrored))) :=
  have nd := (sc_mirrored).nd
  def_ok F sc_mirrored fun cdv A outer s H E hr =>
  (ss_one (s_ret (d_ty call_tuple_of c_tuple m_tuple (by decide +kernel) (a_cons (d_lc 1 "letter" nd (j_seq (d_var 0)) (by show blkC ["word", "letter"] (defScope s_mirrored) _ _ = true; decide +kernel) (fun _ _ _ _ _ => pg_name (i := 1) nd rfl (Or.inl rfl)) (fun _ _ _ _ _ => ts_nil) (fun _ _ _ _ _ => (d_neg (d_var 1)))) a_nil))))
/-! ### turned_back: slots 0 word -/
abbrev s_turned_back : Stmt := topS 5
theorem sc_turned_back : FnScope ["word"] ["word"] (defScope s_turned_back) := ⟨rfl, rfl, rfl, by decide +kernel, rfl, by decide +kernel, by decide +kernel⟩
def g_turned_back : FS := (gRet (f1 gRev (fVar 0)))
theorem ok_turned_back {P : Program} {w : World} {K : PySem.W.Frag} {mg : Str → Option Value} {base : Heap} {f : Addr} {fd : FuncData} {k : Nat} (F : Fun K "turned_back" "turned_back" s_turned_back f fd) :
    FnOk P w K mg base CX0 (k + 1) f fd ["word"] (spD K 1 (runD 1 (g_turned_back))) :=
  have nd := (sc_turned_back).nd
  def_ok F sc_turned_back fun cdv A outer s H E hr =>
  (ss_one (s_ret (d_rev (d_var 0))))
/-! ### shifted: slots 0 word, 1 letter -/
abbrev s_shifted : Stmt := topS 6
theorem sc_shifted : FnScope ["word", "letter"] ["word"] (defScope s_shifted) := ⟨rfl, rfl, rfl, by decide +kernel, rfl, by decide +kernel, by decide +kernel⟩
def g_shifted : FS := (gRet (fC1 gTuple (aCons (fLc (itR (fVar 0)) 1 cYes (fIf (fB (f2 gGt (fVar 1) (fC (.int 0)))) (f2 gAdd (fVar 1) (fC (.int 1))) (f2 gMinus (fVar 1) (fC (.int 1)))) [1]) aNil)))
theorem ok_shifted {P : Program} {w : World} {K : PySem.W.Frag} {mg : Str → Option Value} {base : Heap} {f : Addr} {fd : FuncData} {k : Nat} (F : Fun K "shifted" "shifted" s_shifted f fd) (m_tuple : mg "tuple" = none) :
    FnOk P w K mg base CX0 (k + 1) f fd ["word"] (spD K 1 (runD 2 (g_shifted))) :=
  have nd := (sc_shifted).nd
  def_ok F sc_shifted fun cdv A outer s H E hr =>
  (ss_one (s_ret (d_ty call_tuple_of c_tuple m_tuple (by decide +kernel) (a_cons (d_lc 1 "letter" nd (j_seq (d_var 0)) (by show blkC ["word", "letter"] (defScope s_shifted) _ _ = true; decide +kernel) (fun _ _ _ _ _ => pg_name (i := 1) nd rfl (Or.inl rfl)) (fun _ _ _ _ _ => ts_nil) (fun _ _ _ _ _ => (d_if (t_cmp op_gt o_gt (d_var 1) d_int (nomark _)) (d_add (d_var 1) d_int) (d_sub (d_var 1) d_int)))) a_nil))))
/-! ### flipped: slots 0 strands, 1 word, 2 letter -/
abbrev s_flipped : Stmt := topS 7
theorem sc_flipped : FnScope ["strands", "word", "letter"] ["strands", "word"] (defScope s_flipped) := ⟨rfl, rfl, rfl, by decide +kernel, rfl, by decide +kernel, by decide +kernel⟩
def g_flipped : FS := (gRet (fC1 gTuple (aCons (fLc (itR (fVar 1)) 2 cYes (fIf (fB (f2 gGt (fVar 2) (fC (.int 0)))) (f2 gMinus (fVar 0) (fVar 2)) (f2 gMinus (f1 gNeg (fVar 0)) (fVar 2))) [2]) aNil)))
theorem ok_flipped {P : Program} {w : World} {K : PySem.W.Frag} {mg : Str → Option Value} {base : Heap} {f : Addr} {fd : FuncData} {k : Nat} (F : Fun K "flipped" "flipped" s_flipped f fd) (m_tuple : mg "tuple" = none) :
    FnOk P w K mg base CX0 (k + 1) f fd ["strands", "word"] (spD K 2 (runD 3 (g_flipped))) :=
  have nd := (sc_flipped).nd
  def_ok F sc_flipped fun cdv A outer s H E hr =>
  (ss_one (s_ret (d_ty call_tuple_of c_tuple m_tuple (by decide +kernel) (a_cons (d_lc 2 "letter" nd (j_seq (d_var 1)) (by show blkC ["strands", "word", "letter"] (defScope s_flipped) _ _ = true; decide +kernel) (fun _ _ _ _ _ => pg_name (i := 2) nd rfl (Or.inl rfl)) (fun _ _ _ _ _ => ts_nil) (fun _ _ _ _ _ => (d_if (t_cmp op_gt o_gt (d_var 2) d_int (nomark _)) (d_sub (d_var 0) (d_var 2)) (d_sub (d_neg (d_var 0)) (d_var 2))))) a_nil))))
/-! ### total: slots 0 word, 1 letter -/
abbrev s_total : Stmt := topS 8
theorem sc_total : FnScope ["word", "letter"] ["word"] (defScope s_total) := ⟨rfl, rfl, rfl, by decide +kernel, rfl, by decide +kernel, by decide +kernel⟩
def g_total : FS := (gRet (fC1 gSum (aCons (fLc (itR (fVar 0)) 1 cYes (fIf (fB (f2 gGt (fVar 1) (fC (.int 0)))) (fC (.int 1)) (f1 gNeg (fC (.int 1)))) [1]) aNil)))
theorem ok_total {P : Program} {w : World} {K : PySem.W.Frag} {mg : Str → Option Value} {base : Heap} {f : Addr} {fd : FuncData} {k : Nat} (F : Fun K "total" "total" s_total f fd) (m_sum : mg "sum" = none) :
    FnOk P w K mg base CX0 (k + 1) f fd ["word"] (spD K 1 (runD 2 (g_total))) :=
  have nd := (sc_total).nd
  def_ok F sc_total fun cdv A outer s H E hr =>
  (ss_one (s_ret (d_blt (cr_sum rfl) c_sum m_sum (by decide +kernel) (a_cons (d_lc 1 "letter" nd (j_seq (d_var 0)) (by show blkC ["word", "letter"] (defScope s_total) _ _ = true; decide +kernel) (fun _ _ _ _ _ => pg_name (i := 1) nd rfl (Or.inl rfl)) (fun _ _ _ _ _ => ts_nil) (fun _ _ _ _ _ => (d_if (t_cmp op_gt o_gt (d_var 1) d_int (nomark _)) d_int (d_neg d_int)))) a_nil))))
/-! ### _law_mixed: slots 0 cell, 1 turn, 2 value, 3 first, 4 second, 5 third -/
abbrev s__law_mixed : Stmt := topS 10
theorem sc__law_mixed : FnScope ["cell", "turn", "value", "first", "second", "third"] ["cell", "turn"] (defScope s__law_mixed) := ⟨rfl, rfl, rfl, by decide +kernel, rfl, by decide +kernel, by decide +kernel⟩
def g__law_mixed : FS := (gSeq (gSet 2 (fC1 gInt (aCons (fVar 0) aNil)))
    (gSeq (gIf (fB (f2 gGe (fVar 2) (f2 gPow (fC (.int 10)) (fC (.int 18))))) (gRet (fVar 2)) gNil)
    (gSeq (gSet 3 (f2 gMod (f2 gAdd (f2 gMul (f2 gMod (fVar 2) (fC (.int 1000003))) (fC (.int 48271))) (f2 gMul (fC (.int 69621)) (f2 gAdd (fVar 1) (fC (.int 1))))) (fC (.int 2147483647))))
    (gSeq (gSet 4 (f2 gMod (f2 gAdd (f2 gMul (fVar 3) (fC (.int 48271))) (f2 gMod (fVar 2) (fC (.int 999983)))) (fC (.int 2147483647))))
    (gSeq (gSet 5 (f2 gMod (f2 gAdd (f2 gMul (fVar 4) (fC (.int 69621))) (fVar 3)) (fC (.int 2147483647))))
    (gRet (f2 gAdd (f2 gAdd (fVar 3) (f2 gMul (fC (.int 2147483647)) (fVar 4))) (f2 gMul (fC (.int 4611686014132420609)) (fVar 5)))))))))
theorem ok__law_mixed {P : Program} {w : World} {K : PySem.W.Frag} {mg : Str → Option Value} {base : Heap} {f : Addr} {fd : FuncData} {k : Nat} (F : Fun K "_law_mixed" "_law_mixed" s__law_mixed f fd) (m_int : mg "int" = none) :
    FnOk P w K mg base CX0 (k + 1) f fd ["cell", "turn"] (spD K 2 (runD 6 (g__law_mixed))) :=
  have nd := (sc__law_mixed).nd
  def_ok F sc__law_mixed fun cdv A outer s H E hr =>
  (ss_cons (s_set 2 nd (d_ty call_int1 c_int m_int (by decide +kernel) (a_cons (d_var 0) a_nil)))
    (ss_cons (s_if (t_cmp op_ge o_ge (d_var 2) (d_pow d_int d_int) (nomark _)) (ss_one (s_ret (d_var 2))) ss_nil)
    (ss_cons (s_set 3 nd (d_mod (d_add (d_mul (d_mod (d_var 2) d_int) d_int) (d_mul d_int (d_add (d_var 1) d_int))) d_int))
    (ss_cons (s_set 4 nd (d_mod (d_add (d_mul (d_var 3) d_int) (d_mod (d_var 2) d_int)) d_int))
    (ss_cons (s_set 5 nd (d_mod (d_add (d_mul (d_var 4) d_int) (d_var 3)) d_int))
    (ss_one (s_ret (d_add (d_add (d_var 3) (d_mul d_int (d_var 4))) (d_mul d_int (d_var 5))))))))))
/-! ### _law_word: slots 0 value, 1 strands, 2 most, 3 word, 4 left, 5 k, 6 digit -/
abbrev s__law_word : Stmt := topS 11
theorem sc__law_word : FnScope ["value", "strands", "most", "word", "left", "k", "digit"] ["value", "strands", "most"] (defScope s__law_word) := ⟨rfl, rfl, rfl, by decide +kernel, rfl, by decide +kernel, by decide +kernel⟩
def g__law_word : FS := (gSeq (gSetO 3 (fLst aNil))
    (gSeq (gSet 4 (f2 gDiv (fVar 0) (f2 gAdd (fVar 2) (fC (.int 1)))))
    (gSeq (gFor (rg1 (aCons (f2 gMod (fVar 0) (f2 gAdd (fVar 2) (fC (.int 1)))) aNil)) (uName 5) (gSeq (gIf (fB (f2 gEq (fVar 4) (fC (.int 0)))) (gSet 4 (f2 gAdd (fVar 0) (f2 gMul (fC (.int 7919)) (f2 gAdd (fVar 5) (fC (.int 1)))))) gNil)
    (gSeq (gSet 6 (f2 gMod (fVar 4) (f2 gMinus (f2 gMul (fC (.int 2)) (fVar 1)) (fC (.int 2)))))
    (gSeq (gSet 4 (f2 gDiv (fVar 4) (f2 gMinus (f2 gMul (fC (.int 2)) (fVar 1)) (fC (.int 2)))))
    (gApp 3 (f2 gIx (fLst (aCons (f2 gAdd (fVar 6) (fC (.int 1))) (aCons (f2 gMinus (f2 gMinus (fVar 1) (fC (.int 2))) (fVar 6)) aNil))) (fC1 gInt (aCons (f2 gGe (fVar 6) (f2 gMinus (fVar 1) (fC (.int 1)))) aNil))))))))
    (gRet (fC1 gTuple (aCons (fVar 3) aNil))))))
theorem ok__law_word {P : Program} {w : World} {K : PySem.W.Frag} {mg : Str → Option Value} {base : Heap} {f : Addr} {fd : FuncData} {k : Nat} (F : Fun K "_law_word" "_law_word" s__law_word f fd) (m_tuple : mg "tuple" = none) (m_range : mg "range" = none) (m_int : mg "int" = none) :
    FnOk P w K mg base CX0 (k + 1) f fd ["value", "strands", "most"] (spD K 3 (runD 7 (g__law_word))) :=
  have nd := (sc__law_word).nd
  def_ok F sc__law_word fun cdv A outer s H E hr =>
  (ss_cons (s_setO 3 nd (d_lst a_nil))
    (ss_cons (s_set 4 nd (d_div (d_var 0) (d_add (d_var 2) d_int)))
    (ss_cons (s_for (i_rg1 m_range (a_cons (d_mod (d_var 0) (d_add (d_var 2) d_int)) a_nil)) (g_name 5 nd) (ss_cons (s_if (t_cmp (op_eqD hr.units) o_eq (d_var 4) d_int (nomark _)) (ss_one (s_set 4 nd (d_add (d_var 0) (d_mul d_int (d_add (d_var 5) d_int))))) ss_nil)
    (ss_cons (s_set 6 nd (d_mod (d_var 4) (d_sub (d_mul d_int (d_var 1)) d_int)))
    (ss_cons (s_set 4 nd (d_div (d_var 4) (d_sub (d_mul d_int (d_var 1)) d_int)))
    (ss_one (s_app 3 (d_ix (d_lst (a_cons (d_add (d_var 6) d_int) (a_cons (d_sub (d_sub (d_var 1) d_int) (d_var 6)) a_nil))) (d_ty call_int1 c_int m_int (by decide +kernel) (a_cons (d_cmp op_ge o_ge (d_var 6) (d_sub (d_var 1) d_int) (nomark _)) a_nil))) (ps_expr (pe_bm PySem.F.plainAttrs_list PySem.F.slot_list_append PySem.F.type_list_append mt_append (pv 3) (pa_cons (d_ix (d_lst (a_cons (d_add (d_var 6) d_int) (a_cons (d_sub (d_sub (d_var 1) d_int) (d_var 6)) a_nil))) (d_ty call_int1 c_int m_int (by decide +kernel) (a_cons (d_cmp op_ge o_ge (d_var 6) (d_sub (d_var 1) d_int) (nomark _)) a_nil))) pa_nil)))))))))
    (ss_one (s_ret (d_ty call_tuple_of c_tuple m_tuple (by decide +kernel) (a_cons (d_var 3) a_nil)))))))
/-! ### _law_same: slots 0 told, 1 due, 2 k -/
abbrev s__law_same : Stmt := topS 12
theorem sc__law_same : FnScope ["told", "due", "k"] ["told", "due"] (defScope s__law_same) := ⟨rfl, rfl, rfl, by decide +kernel, rfl, by decide +kernel, by decide +kernel⟩
def g__law_same (F__law_same : FD) : FS := (gSeq (gIf (tOrF (fTru (f1 (gIsi "tuple") (fVar 1))) (fTru (f1 (gIsi "list") (fVar 1)))) (gSeq (gIf (tOrF (fB (f2 gNe (f1 (gIsi "tuple") (fVar 1)) (f1 (gIsi "tuple") (fVar 0)))) (fB (f2 gNe (f1 (gIsi "list") (fVar 1)) (f1 (gIsi "list") (fVar 0))))) (gRet (fC (.bool false))) gNil)
    (gSeq (gIf (fB (f2 gNe (fC1 gLen (aCons (fVar 0) aNil)) (fC1 gLen (aCons (fVar 1) aNil)))) (gRet (fC (.bool false))) gNil)
    (gRet (f2 gEq (fLc (rg1 (aCons (fC1 gLen (aCons (fVar 1) aNil)) aNil)) 2 (tNotF (fTru (fCall F__law_same (aCons (f2 gIx (fVar 0) (fVar 2)) (aCons (f2 gIx (fVar 1) (fVar 2)) aNil))))) (fVar 2) [2]) (fLst aNil))))) gNil)
    (gSeq (gIf (fTru (f1 (gIsi "int") (fVar 1))) (gRet (fAnd (f1 (gIsi "int") (fVar 0)) (fAnd (fNot (f1 (gIsi "bool") (fVar 0))) (f2 gEq (fVar 0) (fVar 1))))) gNil)
    (gRet (f2 gEq (fVar 0) (fVar 1)))))
theorem ok__law_same {P : Program} {w : World} {K : PySem.W.Frag} {mg : Str → Option Value} {base : Heap} {f : Addr} {fd : FuncData} {k : Nat} (F : Fun K "_law_same" "_law_same" s__law_same f fd) {F__law_same : FD} {f__law_same : Addr} {fd__law_same : FuncData} {j__law_same : Nat} (G__law_same : FnOk P w K mg base CX0 j__law_same f__law_same fd__law_same ["told", "due"] (spD K 2 F__law_same)) (l__law_same : j__law_same ≤ k) (m__law_same : mg "_law_same" = some (.ref f__law_same)) (k__law_same : PySem.W.keepIn K (.ref f__law_same) = true) (b__law_same : Binds K fd__law_same ["told", "due"] []) (m_isinstance : mg "isinstance" = none) (m_int : mg "int" = none) (m_bool : mg "bool" = none) (m_tuple : mg "tuple" = none) (m_list : mg "list" = none) (m_range : mg "range" = none) (m_len : mg "len" = none) :
    FnOk P w K mg base CX0 (k + 1) f fd ["told", "due"] (spD K 2 (runD 3 (g__law_same F__law_same))) :=
  have nd := (sc__law_same).nd
  def_ok F sc__law_same fun cdv A outer s H E hr =>
  (ss_cons (s_if (t_bool (w_or (t_tru (d_isi (n := "tuple") (d_var 1) m_isinstance m_tuple (by decide +kernel) (by decide +kernel))) (w_or1 (t_tru (d_isi (n := "list") (d_var 1) m_isinstance m_list (by decide +kernel) (by decide +kernel)))))) (ss_cons (s_if (t_bool (w_or (t_cmp (op_neD hr.units) o_ne (d_isi (n := "tuple") (d_var 1) m_isinstance m_tuple (by decide +kernel) (by decide +kernel)) (d_isi (n := "tuple") (d_var 0) m_isinstance m_tuple (by decide +kernel) (by decide +kernel)) (nomark _)) (w_or1 (t_cmp (op_neD hr.units) o_ne (d_isi (n := "list") (d_var 1) m_isinstance m_list (by decide +kernel) (by decide +kernel)) (d_isi (n := "list") (d_var 0) m_isinstance m_list (by decide +kernel) (by decide +kernel)) (nomark _))))) (ss_one (s_ret d_bl)) ss_nil)
    (ss_cons (s_if (t_cmp (op_neD hr.units) o_ne (d_blt call_len c_len m_len (by decide +kernel) (a_cons (d_var 0) a_nil)) (d_blt call_len c_len m_len (by decide +kernel) (a_cons (d_var 1) a_nil)) (nomark _)) (ss_one (s_ret d_bl)) ss_nil)
    (ss_one (s_ret (d_cmp (op_eqD hr.units) o_eq (d_lc 2 "k" nd (DI.dj (i_rg1 m_range (a_cons (d_blt call_len c_len m_len (by decide +kernel) (a_cons (d_var 1) a_nil)) a_nil))) (by show blkC ["told", "due", "k"] (defScope s__law_same) _ _ = true; decide +kernel) (fun _ _ _ _ _ => pg_name (i := 2) nd rfl (Or.inl rfl)) (fun _ _ _ _ _ => ts_one (t_not (t_tru (d_call G__law_same (hr.mono l__law_same) m__law_same k__law_same b__law_same (a_cons (d_ix (d_var 0) (d_var 2)) (a_cons (d_ix (d_var 1) (d_var 2)) a_nil)) (al_cons (al_cons al_nil)))))) (fun _ _ _ _ _ => (d_var 2))) (d_lst a_nil) (nomark _)))))) ss_nil)
    (ss_cons (s_if (t_tru (d_isi (n := "int") (d_var 1) m_isinstance m_int (by decide +kernel) (by decide +kernel))) (ss_one (s_ret (d_and (d_isi (n := "int") (d_var 0) m_isinstance m_int (by decide +kernel) (by decide +kernel)) (d_and (d_not (d_isi (n := "bool") (d_var 0) m_isinstance m_bool (by decide +kernel) (by decide +kernel))) (d_one (d_cmp (op_eqD hr.units) o_eq (d_var 0) (d_var 1) (nomark _))))))) ss_nil)
    (ss_one (s_ret (d_cmp (op_eqD hr.units) o_eq (d_var 0) (d_var 1) (nomark _))))))
/-! ### _law_says: slots 0 told, 1 due -/
abbrev s__law_says : Stmt := topS 13
theorem sc__law_says : FnScope ["told", "due"] ["told", "due"] (defScope s__law_says) := ⟨rfl, rfl, rfl, by decide +kernel, rfl, by decide +kernel, by decide +kernel⟩
def g__law_says : FS := (gRet (fAnd (f1 (gIsi "bool") (fVar 0)) (f2 gEq (fVar 0) (fVar 1))))
theorem ok__law_says {P : Program} {w : World} {K : PySem.W.Frag} {mg : Str → Option Value} {base : Heap} {f : Addr} {fd : FuncData} {k : Nat} (F : Fun K "_law_says" "_law_says" s__law_says f fd) (m_isinstance : mg "isinstance" = none) (m_bool : mg "bool" = none) :
    FnOk P w K mg base CX0 (k + 1) f fd ["told", "due"] (spD K 2 (runD 2 (g__law_says))) :=
  have nd := (sc__law_says).nd
  def_ok F sc__law_says fun cdv A outer s H E hr =>
  (ss_one (s_ret (d_and (d_isi (n := "bool") (d_var 0) m_isinstance m_bool (by decide +kernel) (by decide +kernel)) (d_one (d_cmp (op_eqD hr.units) o_eq (d_var 0) (d_var 1) (nomark _))))))
/-! ### _law_right: slots 0 strands, 1 word, 2 many, 3 back, 4 k -/
abbrev s__law_right : Stmt := topS 14
theorem sc__law_right : FnScope ["strands", "word", "many", "back", "k"] ["strands", "word"] (defScope s__law_right) := ⟨rfl, rfl, rfl, by decide +kernel, rfl, by decide +kernel, by decide +kernel⟩
def g__law_right (F__law_same F_total F_flipped F_shifted F_mirrored F_turned_back F_undone : FD) : FS := (gSeq (gSet 2 (fC1 gLen (aCons (fVar 1) aNil)))
    (gSeq (gSet 3 (fLc (rg1 (aCons (fVar 2) aNil)) 4 cYes (f2 gIx (fVar 1) (f2 gMinus (f2 gMinus (fVar 2) (fC (.int 1))) (fVar 4))) [4]))
    (gSeq (gIf (tOrF (tNotF (fTru (fCall F__law_same (aCons (fCall F_turned_back (aCons (fVar 1) aNil)) (aCons (fC1 gTuple (aCons (fVar 3) aNil)) aNil))))) (tNotF (fTru (fCall F__law_same (aCons (fCall F_undone (aCons (fVar 1) aNil)) (aCons (fC1 gTuple (aCons (fLc (itR (fVar 3)) 4 cYes (f2 gMinus (fC (.int 0)) (fVar 4)) [4]) aNil)) aNil)))))) (gRet (fC (.bool false))) gNil)
    (gSeq (gIf (tNotF (fTru (fCall F__law_same (aCons (fCall F_mirrored (aCons (fVar 1) aNil)) (aCons (fC1 gTuple (aCons (fLc (itR (fVar 1)) 4 cYes (f2 gMinus (fC (.int 0)) (fVar 4)) [4]) aNil)) aNil))))) (gRet (fC (.bool false))) gNil)
    (gSeq (gIf (tNotF (fTru (fCall F__law_same (aCons (fCall F_shifted (aCons (fVar 1) aNil)) (aCons (fC1 gTuple (aCons (fLc (itR (fVar 1)) 4 cYes (f2 gAdd (fVar 4) (f2 gIx (fLst (aCons (fC (.int 1)) (aCons (f1 gNeg (fC (.int 1))) aNil))) (fC1 gInt (aCons (f2 gLt (fVar 4) (fC (.int 0))) aNil)))) [4]) aNil)) aNil))))) (gRet (fC (.bool false))) gNil)
    (gSeq (gIf (tNotF (fTru (fCall F__law_same (aCons (fCall F_flipped (aCons (fVar 0) (aCons (fVar 1) aNil))) (aCons (fC1 gTuple (aCons (fLc (itR (fVar 1)) 4 cYes (f2 gIx (fLst (aCons (f2 gMinus (fVar 0) (fVar 4)) (aCons (f2 gMinus (f2 gMinus (fC (.int 0)) (fVar 0)) (fVar 4)) aNil))) (fC1 gInt (aCons (f2 gLt (fVar 4) (fC (.int 0))) aNil))) [4]) aNil)) aNil))))) (gRet (fC (.bool false))) gNil)
    (gRet (fCall F__law_same (aCons (fCall F_total (aCons (fVar 1) aNil)) (aCons (f2 gMinus (fC1 gLen (aCons (fLc (itR (fVar 1)) 4 (fB (f2 gGt (fVar 4) (fC (.int 0)))) (fVar 4) [4]) aNil)) (fC1 gLen (aCons (fLc (itR (fVar 1)) 4 (fB (f2 gLt (fVar 4) (fC (.int 0)))) (fVar 4) [4]) aNil))) aNil))))))))))
theorem ok__law_right {P : Program} {w : World} {K : PySem.W.Frag} {mg : Str → Option Value} {base : Heap} {f : Addr} {fd : FuncData} {k : Nat} (F : Fun K "_law_right" "_law_right" s__law_right f fd) {F__law_same : FD} {f__law_same : Addr} {fd__law_same : FuncData} {j__law_same : Nat} (G__law_same : FnOk P w K mg base CX0 j__law_same f__law_same fd__law_same ["told", "due"] (spD K 2 F__law_same)) (l__law_same : j__law_same ≤ k) (m__law_same : mg "_law_same" = some (.ref f__law_same)) (k__law_same : PySem.W.keepIn K (.ref f__law_same) = true) (b__law_same : Binds K fd__law_same ["told", "due"] []) {F_total : FD} {f_total : Addr} {fd_total : FuncData} {j_total : Nat} (G_total : FnOk P w K mg base CX0 j_total f_total fd_total ["word"] (spD K 1 F_total)) (l_total : j_total ≤ k) (m_total : mg "total" = some (.ref f_total)) (k_total : PySem.W.keepIn K (.ref f_total) = true) (b_total : Binds K fd_total ["word"] []) {F_flipped : FD} {f_flipped : Addr} {fd_flipped : FuncData} {j_flipped : Nat} (G_flipped : FnOk P w K mg base CX0 j_flipped f_flipped fd_flipped ["strands", "word"] (spD K 2 F_flipped)) (l_flipped : j_flipped ≤ k) (m_flipped : mg "flipped" = some (.ref f_flipped)) (k_flipped : PySem.W.keepIn K (.ref f_flipped) = true) (b_flipped : Binds K fd_flipped ["strands", "word"] []) {F_shifted : FD} {f_shifted : Addr} {fd_shifted : FuncData} {j_shifted : Nat} (G_shifted : FnOk P w K mg base CX0 j_shifted f_shifted fd_shifted ["word"] (spD K 1 F_shifted)) (l_shifted : j_shifted ≤ k) (m_shifted : mg "shifted" = some (.ref f_shifted)) (k_shifted : PySem.W.keepIn K (.ref f_shifted) = true) (b_shifted : Binds K fd_shifted ["word"] []) {F_mirrored : FD} {f_mirrored : Addr} {fd_mirrored : FuncData} {j_mirrored : Nat} (G_mirrored : FnOk P w K mg base CX0 j_mirrored f_mirrored fd_mirrored ["word"] (spD K 1 F_mirrored)) (l_mirrored : j_mirrored ≤ k) (m_mirrored : mg "mirrored" = some (.ref f_mirrored)) (k_mirrored : PySem.W.keepIn K (.ref f_mirrored) = true) (b_mirrored : Binds K fd_mirrored ["word"] []) {F_turned_back : FD} {f_turned_back : Addr} {fd_turned_back : FuncData} {j_turned_back : Nat} (G_turned_back : FnOk P w K mg base CX0 j_turned_back f_turned_back fd_turned_back ["word"] (spD K 1 F_turned_back)) (l_turned_back : j_turned_back ≤ k) (m_turned_back : mg "turned_back" = some (.ref f_turned_back)) (k_turned_back : PySem.W.keepIn K (.ref f_turned_back) = true) (b_turned_back : Binds K fd_turned_back ["word"] []) {F_undone : FD} {f_undone : Addr} {fd_undone : FuncData} {j_undone : Nat} (G_undone : FnOk P w K mg base CX0 j_undone f_undone fd_undone ["word"] (spD K 1 F_undone)) (l_undone : j_undone ≤ k) (m_undone : mg "undone" = some (.ref f_undone)) (k_undone : PySem.W.keepIn K (.ref f_undone) = true) (b_undone : Binds K fd_undone ["word"] []) (m_len : mg "len" = none) (m_tuple : mg "tuple" = none) (m_int : mg "int" = none) (m_range : mg "range" = none) :
    FnOk P w K mg base CX0 (k + 1) f fd ["strands", "word"] (spD K 2 (runD 5 (g__law_right F__law_same F_total F_flipped F_shifted F_mirrored F_turned_back F_undone))) :=
  have nd := (sc__law_right).nd
  def_ok F sc__law_right fun cdv A outer s H E hr =>
  (ss_cons (s_set 2 nd (d_blt call_len c_len m_len (by decide +kernel) (a_cons (d_var 1) a_nil)))
    (ss_cons (s_setLc 3 4 "k" nd (DI.dj (i_rg1 m_range (a_cons (d_var 2) a_nil))) (by show blkC ["strands", "word", "many", "back", "k"] (defScope s__law_right) _ _ = true; decide +kernel) (fun _ _ _ _ _ => pg_name (i := 4) nd rfl (Or.inl rfl)) (fun _ _ _ _ _ => ts_nil) (fun _ _ _ _ _ => (d_ix (d_var 1) (d_sub (d_sub (d_var 2) d_int) (d_var 4)))))
    (ss_cons (s_if (t_bool (w_or (t_not (t_tru (d_call G__law_same (hr.mono l__law_same) m__law_same k__law_same b__law_same (a_cons (d_call G_turned_back (hr.mono l_turned_back) m_turned_back k_turned_back b_turned_back (a_cons (d_var 1) a_nil) (al_cons al_nil)) (a_cons (d_ty call_tuple_of c_tuple m_tuple (by decide +kernel) (a_cons (d_var 3) a_nil)) a_nil)) (al_cons (al_cons al_nil))))) (w_or1 (t_not (t_tru (d_call G__law_same (hr.mono l__law_same) m__law_same k__law_same b__law_same (a_cons (d_call G_undone (hr.mono l_undone) m_undone k_undone b_undone (a_cons (d_var 1) a_nil) (al_cons al_nil)) (a_cons (d_ty call_tuple_of c_tuple m_tuple (by decide +kernel) (a_cons (d_lc 4 "k" nd (j_seq (d_var 3)) (by show blkC ["strands", "word", "many", "back", "k"] (defScope s__law_right) _ _ = true; decide +kernel) (fun _ _ _ _ _ => pg_name (i := 4) nd rfl (Or.inl rfl)) (fun _ _ _ _ _ => ts_nil) (fun _ _ _ _ _ => (d_sub d_int (d_var 4)))) a_nil)) a_nil)) (al_cons (al_cons al_nil)))))))) (ss_one (s_ret d_bl)) ss_nil)
    (ss_cons (s_if (t_not (t_tru (d_call G__law_same (hr.mono l__law_same) m__law_same k__law_same b__law_same (a_cons (d_call G_mirrored (hr.mono l_mirrored) m_mirrored k_mirrored b_mirrored (a_cons (d_var 1) a_nil) (al_cons al_nil)) (a_cons (d_ty call_tuple_of c_tuple m_tuple (by decide +kernel) (a_cons (d_lc 4 "k" nd (j_seq (d_var 1)) (by show blkC ["strands", "word", "many", "back", "k"] (defScope s__law_right) _ _ = true; decide +kernel) (fun _ _ _ _ _ => pg_name (i := 4) nd rfl (Or.inl rfl)) (fun _ _ _ _ _ => ts_nil) (fun _ _ _ _ _ => (d_sub d_int (d_var 4)))) a_nil)) a_nil)) (al_cons (al_cons al_nil))))) (ss_one (s_ret d_bl)) ss_nil)
    (ss_cons (s_if (t_not (t_tru (d_call G__law_same (hr.mono l__law_same) m__law_same k__law_same b__law_same (a_cons (d_call G_shifted (hr.mono l_shifted) m_shifted k_shifted b_shifted (a_cons (d_var 1) a_nil) (al_cons al_nil)) (a_cons (d_ty call_tuple_of c_tuple m_tuple (by decide +kernel) (a_cons (d_lc 4 "k" nd (j_seq (d_var 1)) (by show blkC ["strands", "word", "many", "back", "k"] (defScope s__law_right) _ _ = true; decide +kernel) (fun _ _ _ _ _ => pg_name (i := 4) nd rfl (Or.inl rfl)) (fun _ _ _ _ _ => ts_nil) (fun _ _ _ _ _ => (d_add (d_var 4) (d_ix (d_lst (a_cons d_int (a_cons (d_neg d_int) a_nil))) (d_ty call_int1 c_int m_int (by decide +kernel) (a_cons (d_cmp op_lt o_lt (d_var 4) d_int (nomark _)) a_nil)))))) a_nil)) a_nil)) (al_cons (al_cons al_nil))))) (ss_one (s_ret d_bl)) ss_nil)
    (ss_cons (s_if (t_not (t_tru (d_call G__law_same (hr.mono l__law_same) m__law_same k__law_same b__law_same (a_cons (d_call G_flipped (hr.mono l_flipped) m_flipped k_flipped b_flipped (a_cons (d_var 0) (a_cons (d_var 1) a_nil)) (al_cons (al_cons al_nil))) (a_cons (d_ty call_tuple_of c_tuple m_tuple (by decide +kernel) (a_cons (d_lc 4 "k" nd (j_seq (d_var 1)) (by show blkC ["strands", "word", "many", "back", "k"] (defScope s__law_right) _ _ = true; decide +kernel) (fun _ _ _ _ _ => pg_name (i := 4) nd rfl (Or.inl rfl)) (fun _ _ _ _ _ => ts_nil) (fun _ _ _ _ _ => (d_ix (d_lst (a_cons (d_sub (d_var 0) (d_var 4)) (a_cons (d_sub (d_sub d_int (d_var 0)) (d_var 4)) a_nil))) (d_ty call_int1 c_int m_int (by decide +kernel) (a_cons (d_cmp op_lt o_lt (d_var 4) d_int (nomark _)) a_nil))))) a_nil)) a_nil)) (al_cons (al_cons al_nil))))) (ss_one (s_ret d_bl)) ss_nil)
    (ss_one (s_ret (d_call G__law_same (hr.mono l__law_same) m__law_same k__law_same b__law_same (a_cons (d_call G_total (hr.mono l_total) m_total k_total b_total (a_cons (d_var 1) a_nil) (al_cons al_nil)) (a_cons (d_sub (d_blt call_len c_len m_len (by decide +kernel) (a_cons (d_lc 4 "k" nd (j_seq (d_var 1)) (by show blkC ["strands", "word", "many", "back", "k"] (defScope s__law_right) _ _ = true; decide +kernel) (fun _ _ _ _ _ => pg_name (i := 4) nd rfl (Or.inl rfl)) (fun _ _ _ _ _ => ts_one (t_cmp op_gt o_gt (d_var 4) d_int (nomark _))) (fun _ _ _ _ _ => (d_var 4))) a_nil)) (d_blt call_len c_len m_len (by decide +kernel) (a_cons (d_lc 4 "k" nd (j_seq (d_var 1)) (by show blkC ["strands", "word", "many", "back", "k"] (defScope s__law_right) _ _ = true; decide +kernel) (fun _ _ _ _ _ => pg_name (i := 4) nd rfl (Or.inl rfl)) (fun _ _ _ _ _ => ts_one (t_cmp op_lt o_lt (d_var 4) d_int (nomark _))) (fun _ _ _ _ _ => (d_var 4))) a_nil))) a_nil)) (al_cons (al_cons al_nil)))))))))))
/-! ### law: slots 0 script, 1 turn, 2 cell, 3 value, 4 strands, 5 word, 6 many, 7 odd, 8 due, 9 far, 10 at, 11 wrong, 12 k -/
abbrev s_law : Stmt := topS 15
theorem sc_law : FnScope ["script", "turn", "cell", "value", "strands", "word", "many", "odd", "due", "far", "at", "wrong", "k"] ["script"] (defScope s_law) := ⟨rfl, rfl, rfl, by decide +kernel, rfl, by decide +kernel, by decide +kernel⟩
def g_law (F_is_word F__law_word F__law_says F__law_right F__law_mixed : FD) : FS := (gSeq (gIf (fB (f2 gNe (fC k_MOST_STRANDS) (fC (.int 8)))) (gRet (fC (.bool false))) gNil)
    (gSeq (gFor (enF (aCons (fSl (fVar 0) oNone (oSome (fC (.int 30)))) aNil)) (uTup 2 (uCons (uName 1) (uCons (uName 2) uNil))) (gSeq (gSet 3 (fCall F__law_mixed (aCons (fVar 2) (aCons (fVar 1) aNil))))
    (gSeq (gSet 4 (f2 gAdd (fC (.int 2)) (f2 gMod (fVar 3) (fC (.int 7)))))
    (gSeq (gSet 5 (fCall F__law_word (aCons (f2 gDiv (fVar 3) (fC (.int 7))) (aCons (fVar 4) (aCons (fC (.int 14)) aNil)))))
    (gSeq (gIf (tOrF (tNotF (fTru (fCall F__law_right (aCons (fVar 4) (aCons (fVar 5) aNil))))) (fB (f2 gIsNot (fCall F_is_word (aCons (fVar 4) (aCons (fVar 5) aNil))) (fC (.bool true))))) (gRet (fC (.bool false))) gNil)
    (gSeq (gSet 6 (f2 gAdd (fC (.int 2)) (f2 gMod (f2 gDiv (fVar 3) (f2 gPow (fC (.int 10)) (fC (.int 12)))) (fC (.int 199)))))
    (gSeq (gIf (tNotF (fTru (fCall F__law_right (aCons (fVar 6) (aCons (fCall F__law_word (aCons (f2 gDiv (fVar 3) (f2 gPow (fC (.int 10)) (fC (.int 14)))) (aCons (fVar 6) (aCons (fC (.int 8)) aNil)))) aNil))))) (gRet (fC (.bool false))) gNil)
    (gSeq (gSet 7 (fC1 gTuple (aCons (fLc (rg1 (aCons (f2 gMod (f2 gDiv (fVar 3) (fC (.int 11))) (fC (.int 7))) aNil)) 12 cYes (f2 gMinus (f2 gMod (f2 gDiv (fVar 3) (f2 gAdd (f2 gMul (fVar 12) (fC (.int 5))) (fC (.int 3)))) (fC (.int 19))) (fC (.int 9))) [12]) aNil)))
    (gSeq (gSet 8 (f2 gEq (fLc (itR (fVar 7)) 12 (tOrF (fB (f2 gEq (fVar 12) (fC (.int 0)))) (fB (f2 gGe (fC1 gAbs (aCons (fVar 12) aNil)) (fVar 4)))) (fVar 12) [12]) (fLst aNil)))
    (gSeq (gIf (tNotF (fTru (fCall F__law_says (aCons (fCall F_is_word (aCons (fVar 4) (aCons (fVar 7) aNil))) (aCons (fVar 8) aNil))))) (gRet (fC (.bool false))) gNil)
    (gSeq (gSet 9 (fCall F__law_word (aCons (f2 gDiv (fVar 3) (f2 gPow (fC (.int 10)) (fC (.int 6)))) (aCons (fVar 4) (aCons (fC (.int 40)) aNil)))))
    (gSeq (gSet 10 (f2 gMod (f2 gDiv (fVar 3) (fC (.int 13))) (f2 gAdd (fC1 gLen (aCons (fVar 9) aNil)) (fC (.int 1)))))
    (gSeq (gSet 11 (fLst (aCons (fC (.int 0)) (aCons (fVar 4) (aCons (f2 gMinus (fC (.int 0)) (fVar 4)) (aCons (f2 gAdd (f2 gMul (fC (.int 10)) (fVar 4)) (fC (.int 1))) (aCons (f2 gMinus (fC (.int 10)) (f2 gMul (fC (.int 16)) (fVar 4))) (aCons (f2 gAdd (f2 gPow (fC (.int 10)) (fC (.int 20))) (f2 gMod (fVar 3) (fC (.int 7)))) (aCons (f2 gMinus (fC (.int 1)) (f2 gPow (fC (.int 10)) (fC (.int 20)))) aNil)))))))))
    (gSeq (gSet 11 (f2 gIx (fVar 11) (f2 gMod (f2 gDiv (fVar 3) (fC (.int 77))) (fC (.int 7)))))
    (gIf (tOrF (fB (f2 gIsNot (fCall F_is_word (aCons (fVar 4) (aCons (fVar 9) aNil))) (fC (.bool true)))) (fB (f2 gIsNot (fCall F_is_word (aCons (fVar 4) (aCons (f2 gAdd (f2 gAdd (fSl (fVar 9) oNone (oSome (fVar 10))) (fTup (aCons (fVar 11) aNil))) (fSl (fVar 9) (oSome (fVar 10)) oNone)) aNil))) (fC (.bool false))))) (gRet (fC (.bool false))) gNil)))))))))))))))
    (gRet (fC (.bool true)))))
theorem ok_law {P : Program} {w : World} {K : PySem.W.Frag} {mg : Str → Option Value} {base : Heap} {f : Addr} {fd : FuncData} {k : Nat} (F : Fun K "law" "law" s_law f fd) {F_is_word : FD} {f_is_word : Addr} {fd_is_word : FuncData} {j_is_word : Nat} (G_is_word : FnOk P w K mg base CX0 j_is_word f_is_word fd_is_word ["strands", "word"] (spD K 2 F_is_word)) (l_is_word : j_is_word ≤ k) (m_is_word : mg "is_word" = some (.ref f_is_word)) (k_is_word : PySem.W.keepIn K (.ref f_is_word) = true) (b_is_word : Binds K fd_is_word ["strands", "word"] []) {F__law_word : FD} {f__law_word : Addr} {fd__law_word : FuncData} {j__law_word : Nat} (G__law_word : FnOk P w K mg base CX0 j__law_word f__law_word fd__law_word ["value", "strands", "most"] (spD K 3 F__law_word)) (l__law_word : j__law_word ≤ k) (m__law_word : mg "_law_word" = some (.ref f__law_word)) (k__law_word : PySem.W.keepIn K (.ref f__law_word) = true) (b__law_word : Binds K fd__law_word ["value", "strands", "most"] []) {F__law_says : FD} {f__law_says : Addr} {fd__law_says : FuncData} {j__law_says : Nat} (G__law_says : FnOk P w K mg base CX0 j__law_says f__law_says fd__law_says ["told", "due"] (spD K 2 F__law_says)) (l__law_says : j__law_says ≤ k) (m__law_says : mg "_law_says" = some (.ref f__law_says)) (k__law_says : PySem.W.keepIn K (.ref f__law_says) = true) (b__law_says : Binds K fd__law_says ["told", "due"] []) {F__law_right : FD} {f__law_right : Addr} {fd__law_right : FuncData} {j__law_right : Nat} (G__law_right : FnOk P w K mg base CX0 j__law_right f__law_right fd__law_right ["strands", "word"] (spD K 2 F__law_right)) (l__law_right : j__law_right ≤ k) (m__law_right : mg "_law_right" = some (.ref f__law_right)) (k__law_right : PySem.W.keepIn K (.ref f__law_right) = true) (b__law_right : Binds K fd__law_right ["strands", "word"] []) {F__law_mixed : FD} {f__law_mixed : Addr} {fd__law_mixed : FuncData} {j__law_mixed : Nat} (G__law_mixed : FnOk P w K mg base CX0 j__law_mixed f__law_mixed fd__law_mixed ["cell", "turn"] (spD K 2 F__law_mixed)) (l__law_mixed : j__law_mixed ≤ k) (m__law_mixed : mg "_law_mixed" = some (.ref f__law_mixed)) (k__law_mixed : PySem.W.keepIn K (.ref f__law_mixed) = true) (b__law_mixed : Binds K fd__law_mixed ["cell", "turn"] []) (m_enumerate : mg "enumerate" = none) (m_len : mg "len" = none) (m_abs : mg "abs" = none) (m_tuple : mg "tuple" = none) (m_range : mg "range" = none) {u_MOST_STRANDS : Value} {v_MOST_STRANDS : V} (c_MOST_STRANDS : mg "MOST_STRANDS" = some u_MOST_STRANDS ∧ RelV v_MOST_STRANDS u_MOST_STRANDS ∧ ∀ H, Dp K H v_MOST_STRANDS k_MOST_STRANDS) :
    FnOk P w K mg base CX0 (k + 1) f fd ["script"] (spD K 1 (runD 13 (g_law F_is_word F__law_word F__law_says F__law_right F__law_mixed))) :=
  have nd := (sc_law).nd
  def_ok F sc_law fun cdv A outer s H E hr =>
  (ss_cons (s_if (t_cmp (op_neD hr.units) o_ne (d_glob (by rfl) c_MOST_STRANDS.1 c_MOST_STRANDS.2.1 c_MOST_STRANDS.2.2) d_int (nomark _)) (ss_one (s_ret d_bl)) ss_nil)
    (ss_cons (s_for (i_enum m_enumerate (a_cons (d_sl (d_var 0) p_none (p_some d_int)) a_nil)) (g_tup (n := 2) (gs_cons (g_name 1 nd) (gs_cons (g_name 2 nd) gs_nil))) (ss_cons (s_set 3 nd (d_call G__law_mixed (hr.mono l__law_mixed) m__law_mixed k__law_mixed b__law_mixed (a_cons (d_var 2) (a_cons (d_var 1) a_nil)) (al_cons (al_cons al_nil))))
    (ss_cons (s_set 4 nd (d_add d_int (d_mod (d_var 3) d_int)))
    (ss_cons (s_set 5 nd (d_call G__law_word (hr.mono l__law_word) m__law_word k__law_word b__law_word (a_cons (d_div (d_var 3) d_int) (a_cons (d_var 4) (a_cons d_int a_nil))) (al_cons (al_cons (al_cons al_nil)))))
    (ss_cons (s_if (t_bool (w_or (t_not (t_tru (d_call G__law_right (hr.mono l__law_right) m__law_right k__law_right b__law_right (a_cons (d_var 4) (a_cons (d_var 5) a_nil)) (al_cons (al_cons al_nil))))) (w_or1 (t_cmp op_isnotD o_isnot (d_call G_is_word (hr.mono l_is_word) m_is_word k_is_word b_is_word (a_cons (d_var 4) (a_cons (d_var 5) a_nil)) (al_cons (al_cons al_nil))) d_bl (nomark _))))) (ss_one (s_ret d_bl)) ss_nil)
    (ss_cons (s_set 6 nd (d_add d_int (d_mod (d_div (d_var 3) (d_pow d_int d_int)) d_int)))
    (ss_cons (s_if (t_not (t_tru (d_call G__law_right (hr.mono l__law_right) m__law_right k__law_right b__law_right (a_cons (d_var 6) (a_cons (d_call G__law_word (hr.mono l__law_word) m__law_word k__law_word b__law_word (a_cons (d_div (d_var 3) (d_pow d_int d_int)) (a_cons (d_var 6) (a_cons d_int a_nil))) (al_cons (al_cons (al_cons al_nil)))) a_nil)) (al_cons (al_cons al_nil))))) (ss_one (s_ret d_bl)) ss_nil)
    (ss_cons (s_set 7 nd (d_ty call_tuple_of c_tuple m_tuple (by decide +kernel) (a_cons (d_lc 12 "k" nd (DI.dj (i_rg1 m_range (a_cons (d_mod (d_div (d_var 3) d_int) d_int) a_nil))) (by show blkC ["script", "turn", "cell", "value", "strands", "word", "many", "odd", "due", "far", "at", "wrong", "k"] (defScope s_law) _ _ = true; decide +kernel) (fun _ _ _ _ _ => pg_name (i := 12) nd rfl (Or.inl rfl)) (fun _ _ _ _ _ => ts_nil) (fun _ _ _ _ _ => (d_sub (d_mod (d_div (d_var 3) (d_add (d_mul (d_var 12) d_int) d_int)) d_int) d_int))) a_nil)))
    (ss_cons (s_set 8 nd (d_cmp (op_eqD hr.units) o_eq (d_lc 12 "k" nd (j_seq (d_var 7)) (by show blkC ["script", "turn", "cell", "value", "strands", "word", "many", "odd", "due", "far", "at", "wrong", "k"] (defScope s_law) _ _ = true; decide +kernel) (fun _ _ _ _ _ => pg_name (i := 12) nd rfl (Or.inl rfl)) (fun _ _ _ _ _ => ts_one (t_bool (w_or (t_cmp (op_eqD hr.units) o_eq (d_var 12) d_int (nomark _)) (w_or1 (t_cmp op_ge o_ge (d_blt call_abs c_abs m_abs (by decide +kernel) (a_cons (d_var 12) a_nil)) (d_var 4) (nomark _)))))) (fun _ _ _ _ _ => (d_var 12))) (d_lst a_nil) (nomark _)))
    (ss_cons (s_if (t_not (t_tru (d_call G__law_says (hr.mono l__law_says) m__law_says k__law_says b__law_says (a_cons (d_call G_is_word (hr.mono l_is_word) m_is_word k_is_word b_is_word (a_cons (d_var 4) (a_cons (d_var 7) a_nil)) (al_cons (al_cons al_nil))) (a_cons (d_var 8) a_nil)) (al_cons (al_cons al_nil))))) (ss_one (s_ret d_bl)) ss_nil)
    (ss_cons (s_set 9 nd (d_call G__law_word (hr.mono l__law_word) m__law_word k__law_word b__law_word (a_cons (d_div (d_var 3) (d_pow d_int d_int)) (a_cons (d_var 4) (a_cons d_int a_nil))) (al_cons (al_cons (al_cons al_nil)))))
    (ss_cons (s_set 10 nd (d_mod (d_div (d_var 3) d_int) (d_add (d_blt call_len c_len m_len (by decide +kernel) (a_cons (d_var 9) a_nil)) d_int)))
    (ss_cons (s_set 11 nd (d_lst (a_cons d_int (a_cons (d_var 4) (a_cons (d_sub d_int (d_var 4)) (a_cons (d_add (d_mul d_int (d_var 4)) d_int) (a_cons (d_sub d_int (d_mul d_int (d_var 4))) (a_cons (d_add (d_pow d_int d_int) (d_mod (d_var 3) d_int)) (a_cons (d_sub d_int (d_pow d_int d_int)) a_nil)))))))))
    (ss_cons (s_set 11 nd (d_ix (d_var 11) (d_mod (d_div (d_var 3) d_int) d_int)))
    (ss_one (s_if (t_bool (w_or (t_cmp op_isnotD o_isnot (d_call G_is_word (hr.mono l_is_word) m_is_word k_is_word b_is_word (a_cons (d_var 4) (a_cons (d_var 9) a_nil)) (al_cons (al_cons al_nil))) d_bl (nomark _)) (w_or1 (t_cmp op_isnotD o_isnot (d_call G_is_word (hr.mono l_is_word) m_is_word k_is_word b_is_word (a_cons (d_var 4) (a_cons (d_add (d_add (d_sl (d_var 9) p_none (p_some (d_var 10))) (d_tup (a_cons (d_var 11) a_nil))) (d_sl (d_var 9) (p_some (d_var 10)) p_none)) a_nil)) (al_cons (al_cons al_nil))) d_bl (nomark _))))) (ss_one (s_ret d_bl)) ss_nil))))))))))))))))
    (ss_one (s_ret d_bl))))
/-! ### what each def yields -/
def R_is_word : FD := runD 3 (g_is_word)
def R_undone : FD := runD 2 (g_undone)
def R_mirrored : FD := runD 2 (g_mirrored)
def R_turned_back : FD := runD 1 (g_turned_back)
def R_shifted : FD := runD 2 (g_shifted)
def R_flipped : FD := runD 3 (g_flipped)
def R_total : FD := runD 2 (g_total)
def R__law_mixed : FD := runD 6 (g__law_mixed)
def R__law_word : FD := runD 7 (g__law_word)
def R__law_same_0 : FD := fun _ => none
def R__law_same_1 : FD := runD 3 (g__law_same R__law_same_0)
def R__law_same_2 : FD := runD 3 (g__law_same R__law_same_1)
def R__law_same : FD := R__law_same_2
def R__law_says : FD := runD 2 (g__law_says)
def R__law_right : FD := runD 5 (g__law_right R__law_same R_total R_flipped R_shifted R_mirrored R_turned_back R_undone)
def R_law : FD := runD 13 (g_law R_is_word R__law_word R__law_says R__law_right R__law_mixed)
end K01
namespace K01
open PySem PySem.Spec PyProof.Rows L2 DL
def ab (i : Int) : Int := if i < 0 then -i else i
theorem mixed_at {c t : Int} : R__law_mixed [.int c, .int t] = some (.int (mixed c t)) := r_mixed c t
theorem word_at {v s m : Int} (h1 : 2 ≤ s) (h2 : s ≤ 1000) (h3 : 0 ≤ m) (h4 : m ≤ 1000) : R__law_word [.int v, .int s, .int m] = some (wd (lword v s m)) := r_word v s m h1 h2 h3 h4
def isL (s : Int) (w : Int) : Bool := decide (w ≠ 0) && decide ((if w < 0 then -w else w) < s)
theorem is_word_at {s : Int} {ws : List Int} (h : ws.length ≤ 1000) : R_is_word [.int s, wd ws] = some (.bool (ws.all (isL s))) := by
  have hz : ws.length ≤ 100000 := by omega
  simp -implicitDefEqProofs [R_is_word, runD_eq, g_is_word, hz, -List.map_map]
  rw [lcD_all (e := PyData.int) (e' := PyData.bool) (isL s)]
  · simp -implicitDefEqProofs [-List.map_map, List.all_map]
  · intro x hx; simp
  · intro x hx
    by_cases hx0 : x = 0
    · simp -implicitDefEqProofs [isL, hx0]
    · simp -implicitDefEqProofs [isL, hx0]
theorem undone_at {ws : List Int} (h : ws.length ≤ 1000) : R_undone [wd ws] = some (wd (ws.reverse.map fun w => -w)) := by
  have hz : ws.length ≤ 100000 := by omega
  simp -implicitDefEqProofs [R_undone, runD_eq, g_undone, hz, -List.map_map, -List.map_reverse, ← List.map_reverse]
  rw [lcD_all (e := PyData.int) (e' := PyData.int) (fun w => -w)]
  · simp -implicitDefEqProofs [-List.map_map, -List.map_reverse]
  · intro x hx; simp
  · intro x hx; simp
theorem mirrored_at {ws : List Int} (h : ws.length ≤ 1000) : R_mirrored [wd ws] = some (wd (ws.map fun w => -w)) := by
  have hz : ws.length ≤ 100000 := by omega
  simp -implicitDefEqProofs [R_mirrored, runD_eq, g_mirrored, hz, -List.map_map]
  rw [lcD_all (e := PyData.int) (e' := PyData.int) (fun w => -w)]
  · simp -implicitDefEqProofs [-List.map_map]
  · intro x hx; simp
  · intro x hx; simp
theorem turned_at {ws : List Int} : R_turned_back [wd ws] = some (wd ws.reverse) := by
  simp -implicitDefEqProofs [R_turned_back, runD_eq, g_turned_back]
def shf (w : Int) : Int := if 0 < w then w + 1 else w - 1
theorem shifted_at {ws : List Int} (h : ws.length ≤ 1000) : R_shifted [wd ws] = some (wd (ws.map shf)) := by
  have hz : ws.length ≤ 100000 := by omega
  simp -implicitDefEqProofs [R_shifted, runD_eq, g_shifted, hz, -List.map_map]
  rw [lcD_all (e := PyData.int) (e' := PyData.int) shf]
  · simp -implicitDefEqProofs [-List.map_map]
  · intro x hx; simp
  · intro x hx
    by_cases hx0 : 0 < x <;> simp -implicitDefEqProofs [shf, hx0]
def flp (s w : Int) : Int := if 0 < w then s - w else -s - w
theorem flipped_at {s : Int} {ws : List Int} (h : ws.length ≤ 1000) : R_flipped [.int s, wd ws] = some (wd (ws.map (flp s))) := by
  have hz : ws.length ≤ 100000 := by omega
  simp -implicitDefEqProofs [R_flipped, runD_eq, g_flipped, hz, -List.map_map]
  rw [lcD_all (e := PyData.int) (e' := PyData.int) (flp s)]
  · simp -implicitDefEqProofs [-List.map_map]
  · intro x hx; simp
  · intro x hx
    by_cases hx0 : 0 < x <;> simp -implicitDefEqProofs [flp, hx0]
def sg (w : Int) : Int := if 0 < w then 1 else -1
theorem total_at {ws : List Int} (h : ws.length ≤ 1000) : R_total [wd ws] = some (.int (ws.map sg).sum) := by
  have hz : ws.length ≤ 100000 := by omega
  simp -implicitDefEqProofs [R_total, runD_eq, g_total, hz, -List.map_map]
  rw [lcD_all (e := PyData.int) (e' := PyData.int) sg]
  · simp -implicitDefEqProofs [-List.map_map]
  · intro x hx; simp
  · intro x hx
    by_cases hx0 : 0 < x <;> simp -implicitDefEqProofs [sg, hx0]
theorem same_int1 {i j : Int} : R__law_same_1 [.int i, .int j] = some (.bool (decide (i = j))) := by
  simp -implicitDefEqProofs [R__law_same_1, runD_eq, g__law_same]
theorem same_int {i j : Int} : R__law_same [.int i, .int j] = some (.bool (decide (i = j))) := by
  simp -implicitDefEqProofs [R__law_same, R__law_same_2, runD_eq, g__law_same]
theorem same_word {ws us : List Int} (h : us.length ≤ 1000) : R__law_same [wd ws, wd us] = some (.bool (decide (ws = us))) := by
  simp -implicitDefEqProofs [R__law_same, R__law_same_2, runD_eq, g__law_same]
  by_cases hl : ws.length = us.length
  · have hl' : ((ws.length : Nat) : Int) = ((us.length : Nat) : Int) := by omega
    rw [if_pos hl', rg1_nat (by omega), Option.bind_some, if_pos (by rw [rgD_len]; omega)]
    have e0 : rgD 0 us.length = (List.range us.length).map fun i : Nat => PyData.int (i : Int) := by
      unfold rgD
      congr 1
      funext i
      rw [Int.zero_add]
    rw [e0, lcD_gen (e := fun i : Nat => PyData.int (i : Int)) (e' := fun i : Nat => PyData.int (i : Int)) (fun i => !decide (ws[i]? = us[i]?)) (fun i => i)]
    · generalize hL : (List.range us.length).filter (fun i => !decide (ws[i]? = us[i]?)) = L
      have hne : L = [] ↔ ws = us := by
        rw [← hL, List.filter_eq_nil_iff]
        constructor
        · intro q
          apply List.ext_getElem? 
          intro i
          by_cases hi : i < us.length
          · have := q i (List.mem_range.mpr hi)
            simpa using this
          · rw [List.getElem?_eq_none (by omega), List.getElem?_eq_none (by omega)]
        · intro q i _
          rw [q]
          simp
      have e1 : (List.map (fun i : Nat => PyData.int (i : Int)) (List.map (fun i => i) L)) = (L.map fun i : Nat => ((i : Nat) : Int)).map PyData.int := by
        rw [List.map_id', List.map_map]
        rfl
      rw [e1]
      simp -implicitDefEqProofs [-List.map_map]
      by_cases hq : ws = us
      · have := hne.mpr hq
        simp [this, hq]
      · have : ¬ L = [] := fun z => hq (hne.mp z)
        simp [this, hq]
    · intro i hi
      have hi' : i < us.length := List.mem_range.mp hi
      have hj : i < ws.length := by omega
      have g1 : atI (ws.map PyData.int) (i : Int) = some (.int ws[i]) := atI_nat (by rw [List.getElem?_map, List.getElem?_eq_getElem hj]; rfl)
      have g2 : atI (us.map PyData.int) (i : Int) = some (.int us[i]) := atI_nat (by rw [List.getElem?_map, List.getElem?_eq_getElem hi']; rfl)
      simp -implicitDefEqProofs [g1, g2, same_int1, hi', hj]
    · intro i hi _
      simp -implicitDefEqProofs
  · have hl' : ¬ ((ws.length : Nat) : Int) = ((us.length : Nat) : Int) := by omega
    have hq : ¬ ws = us := fun z => hl (by rw [z])
    rw [if_neg hl']
    simp [hq]
end K01
namespace K01
open PySem PySem.Spec PyProof.Rows L2 DL
theorem says_at {b c : Bool} : R__law_says [.bool b, .bool c] = some (.bool (decide (b = c))) := by
  simp -implicitDefEqProofs [R__law_says, runD_eq, g__law_says]
theorem sg_sum : ∀ {ws : List Int}, (∀ w ∈ ws, w ≠ 0) → (ws.map sg).sum = ((ws.filter fun w => decide (0 < w)).length : Int) - ((ws.filter fun w => decide (w < 0)).length : Int)
  | [], _ => rfl
  | w :: ws, h => by
    have ih := sg_sum fun x hx => h x (List.mem_cons_of_mem _ hx)
    have h0 := h w List.mem_cons_self
    rw [List.map_cons, List.sum_cons, ih]
    rcases Int.lt_or_gt_of_ne h0 with q | q
    · have q' : ¬ 0 < w := by omega
      simp [sg, q, q']
      omega
    · have q' : ¬ w < 0 := by omega
      simp [sg, q, q']
      omega
theorem right_at {s : Int} {ws : List Int} (h : ws.length ≤ 1000) (h0 : ∀ w ∈ ws, w ≠ 0) : R__law_right [.int s, wd ws] = some (.bool true) := by
  have hz : ws.length ≤ 100000 := by omega
  have hz2 : ∀ f : Int → Int, (ws.map f).length ≤ 1000 := fun f => by rw [List.length_map]; exact h
  have e0 : rgD 0 ws.length = (List.range ws.length).map fun i : Nat => PyData.int (i : Int) := by
    unfold rgD
    congr 1
    funext i
    rw [Int.zero_add]
  simp -implicitDefEqProofs [R__law_right, runD_eq, g__law_right, -List.map_map]
  rw [rg1_nat (by omega), Option.bind_some, if_pos (by rw [rgD_len]; omega), e0, lcD_all (e := fun i : Nat => PyData.int (i : Int)) (e' := PyData.int) (fun i => ws.reverse.getD i 0)]
  · have er : (List.range ws.length).map (fun i => ws.reverse.getD i 0) = ws.reverse := by
      apply List.ext_getElem?
      intro i
      by_cases hi : i < ws.length
      · rw [List.getElem?_map, List.getElem?_range hi, List.getElem?_eq_getElem (by simpa using hi)]
        simp [List.getD, List.getElem?_eq_getElem (show i < ws.reverse.length by simpa using hi)]
      · rw [List.getElem?_eq_none (by simp; omega), List.getElem?_eq_none (by simp; omega)]
    rw [er]
    have r1 : ws.reverse.length ≤ 1000 := by rw [List.length_reverse]; exact h
    have r2 : ws.reverse.length ≤ 100000 := by omega
    simp -implicitDefEqProofs [-List.map_map, -List.map_reverse, turned_at, undone_at h, same_word r1, r2]
    rw [lcD_all (e := PyData.int) (e' := PyData.int) (fun w => -w)]
    · simp -implicitDefEqProofs [-List.map_map, -List.map_reverse, mirrored_at h, same_word (us := ws.reverse.map fun w => -w) (by rw [List.length_map]; exact r1), hz]
      rw [lcD_all (e := PyData.int) (e' := PyData.int) (fun w => -w)]
      · simp -implicitDefEqProofs [-List.map_map, -List.map_reverse, shifted_at h, same_word (hz2 _), hz]
        rw [lcD_all (e := PyData.int) (e' := PyData.int) shf]
        · simp -implicitDefEqProofs [-List.map_map, -List.map_reverse, flipped_at h, same_word (hz2 _), hz]
          rw [lcD_all (e := PyData.int) (e' := PyData.int) (flp s)]
          · simp -implicitDefEqProofs [-List.map_map, -List.map_reverse, total_at h, same_word (hz2 _), hz]
            rw [lcD_gen (e := PyData.int) (e' := PyData.int) (fun w => decide (0 < w)) (fun w => w)]
            · simp -implicitDefEqProofs [-List.map_map, -List.map_reverse, hz]
              rw [lcD_gen (e := PyData.int) (e' := PyData.int) (fun w => decide (w < 0)) (fun w => w)]
              · have q := sg_sum h0
                simp -implicitDefEqProofs [-List.map_map, -List.map_reverse, same_int, q]
              · intro x hx; simp
              · intro x hx _; simp
            · intro x hx; simp
            · intro x hx _; simp
          · intro x hx; simp
          · intro x hx
            have := h0 x hx
            by_cases hx0 : 0 < x
            · have h1 : ¬ x < 0 := by omega
              simp -implicitDefEqProofs [flp, hx0, h1]
            · have h1 : x < 0 := by omega
              simp -implicitDefEqProofs [flp, hx0, h1]
        · intro x hx; simp
        · intro x hx
          have := h0 x hx
          by_cases hx0 : 0 < x
          · have h1 : ¬ x < 0 := by omega
            simp -implicitDefEqProofs [shf, hx0, h1]
          · have h1 : x < 0 := by omega
            simp -implicitDefEqProofs [shf, hx0, h1]
            omega
      · intro x hx; simp
      · intro x hx; simp
    · intro x hx; simp
    · intro x hx; simp
  · intro i hi; simp
  · intro i hi
    have hi' : i < ws.length := List.mem_range.mp hi
    have g1 : atI (ws.map PyData.int) ((ws.length : Int) - 1 - (i : Int)) = some (.int (ws.reverse.getD i 0)) := by
      have e : (ws.length : Int) - 1 - (i : Int) = ((ws.length - 1 - i : Nat) : Int) := by omega
      rw [e]
      refine atI_nat ?_
      rw [List.getElem?_map, List.getElem?_eq_getElem (by omega)]
      simp [List.getD, List.getElem?_reverse hi', List.getElem?_eq_getElem (show ws.length - 1 - i < ws.length by omega)]
    simp -implicitDefEqProofs [g1]
end K01
namespace K01
open PySem PySem.Spec PyProof.Rows L2 DL
theorem letters {s : Int} {ws : List Int} (h : ∀ w ∈ ws, w ≠ 0 ∧ -s < w ∧ w < s) : ws.all (isL s) = true := by
  rw [List.all_eq_true]
  intro w hw
  obtain ⟨h1, h2, h3⟩ := h w hw
  unfold isL
  rw [decide_eq_true h1, decide_eq_true (by split <;> omega)]
  rfl
theorem no_letter {s w : Int} (h : w = 0 ∨ s ≤ w ∨ w ≤ -s) (hs : 0 ≤ s) : isL s w = false := by
  unfold isL
  by_cases h0 : w = 0
  · simp [h0]
  · have : ¬ (if w < 0 then -w else w) < s := by split <;> omega
    simp [this]
theorem law_at (ns : List Int) (hn : ns.length ≤ 63) : R_law [.list (ns.map .int)] = some (.bool true) := by
  simp -implicitDefEqProofs [R_law, runD_eq, g_law, Option.bind_assoc, k_MOST_STRANDS, k_MOST_STRANDS_n]
  refine forD_all (fun i ρ => ∃ a b c d e f g h k l m n, ρ = [Slot.d (PyData.list (List.map PyData.int ns)), a, b, c, d, e, f, g, h, k, l, m, n]) ⟨_, _, _, _, _, _, _, _, _, _, _, _, rfl⟩ ?_ ?_
  · rintro i x ρ hi ⟨a, b, c, d, e, f, g, h, k, l, m, n, rfl⟩
    obtain ⟨y, hy, rfl⟩ := enD_at hi
    rw [cut_map] at hy
    obtain ⟨z, hz, rfl⟩ := map_get hy
    obtain ⟨v, hv⟩ : ∃ v, v = mixed z i := ⟨_, rfl⟩
    have hv1 := Int.emod_nonneg v (show (7 : Int) ≠ 0 by omega)
    have hv2 := Int.emod_lt_of_pos v (show (0 : Int) < 7 by omega)
    obtain ⟨s, hs⟩ : ∃ s, s = 2 + v % 7 := ⟨_, rfl⟩
    have hs1 : 2 ≤ s := by omega
    have hs2 : s ≤ 8 := by omega
    have wl : ∀ {u t q : Int}, 0 ≤ q → q ≤ 40 → (lword u t q).length ≤ 40 := fun {u t q} h1 h2 => by
      have := lword_len (v := u) (s := t) h1
      omega
    have w0 : ∀ {u t q : Int}, 2 ≤ t → ∀ w ∈ lword u t q, w ≠ 0 := fun {u t q} h1 w hw => (lword_mem h1 hw).1
    have m1 := Int.emod_nonneg (v / 1000000000000) (show (199 : Int) ≠ 0 by omega)
    have m2 := Int.emod_lt_of_pos (v / 1000000000000) (show (0 : Int) < 199 by omega)
    obtain ⟨mm, hmm⟩ : ∃ s, s = 2 + v / 1000000000000 % 199 := ⟨_, rfl⟩
    have n1 := Int.emod_nonneg (v / 11) (show (7 : Int) ≠ 0 by omega)
    have n2 := Int.emod_lt_of_pos (v / 11) (show (0 : Int) < 7 by omega)
    have k1 := word_at (v := v / 7) (s := s) (m := 14) (by omega) (by omega) (by omega) (by omega)
    have k2 := word_at (v := v / 100000000000000) (s := mm) (m := 8) (by omega) (by omega) (by omega) (by omega)
    have k3 := word_at (v := v / 1000000) (s := s) (m := 40) (by omega) (by omega) (by omega) (by omega)
    have w1 : (∀ w ∈ lword (v / 7) s 14, w ≠ 0 ∧ -s < w ∧ w < s) := fun w hw => lword_mem hs1 hw
    have w2 : (∀ w ∈ lword (v / 100000000000000) mm 8, w ≠ 0 ∧ -mm < w ∧ w < mm) := fun w hw => lword_mem (by omega) hw
    have w3 : (∀ w ∈ lword (v / 1000000) s 40, w ≠ 0 ∧ -s < w ∧ w < s) := fun w hw => lword_mem hs1 hw
    have l1 : (lword (v / 7) s 14).length ≤ 40 := wl (by omega) (by omega)
    have l2 : (lword (v / 100000000000000) mm 8).length ≤ 40 := wl (by omega) (by omega)
    have l3 : (lword (v / 1000000) s 40).length ≤ 40 := wl (by omega) (by omega)
    generalize lword (v / 7) s 14 = ws1 at k1 w1 l1
    generalize lword (v / 100000000000000) mm 8 = ws2 at k2 w2 l2
    generalize lword (v / 1000000) s 40 = ws3 at k3 w3 l3
    have q1 := right_at (s := s) (ws := ws1) (by omega) (fun w hw => (w1 w hw).1)
    have q2 := right_at (s := mm) (ws := ws2) (by omega) (fun w hw => (w2 w hw).1)
    have q3 := is_word_at (s := s) (ws := ws1) (by omega)
    rw [letters w1] at q3
    have q4 := is_word_at (s := s) (ws := ws3) (by omega)
    rw [letters w3] at q4
    simp -implicitDefEqProofs [mixed_at, ← hv, ← hs, ← hmm, k1, k2, q1, q2, q3]
    rw [rg1_ok (by omega) (by omega), Option.bind_some, if_pos (by rw [rgD_len]; omega)]
    rw [rgD0, lcD_all (e := fun i : Nat => PyData.int (i : Int)) (e' := PyData.int) (fun k => v / ((k : Int) * 5 + 3) % 19 - 9)]
    · have lo : ((List.range (v / 11 % 7).toNat).map (fun k : Nat => v / ((k : Int) * 5 + 3) % 19 - 9)).length ≤ 1000 := by
        rw [List.length_map, List.length_range]; omega
      generalize (List.range (v / 11 % 7).toNat).map (fun k : Nat => v / ((k : Int) * 5 + 3) % 19 - 9) = odd at lo
      have lo2 : odd.length ≤ 100000 := by omega
      have q5 := is_word_at (s := s) (ws := odd) lo
      simp -implicitDefEqProofs [lo2]
      rw [lcD_gen (e := PyData.int) (e' := PyData.int) (fun w => !isL s w) (fun w => w)]
      · rw [List.map_id']
        have hodd : decide (List.filter (fun w => !isL s w) odd = []) = odd.all (isL s) := by
          rw [Bool.eq_iff_iff, decide_eq_true_iff, List.filter_eq_nil_iff, List.all_eq_true]
          constructor
          · intro q x hx
            simpa using q x hx
          · intro q x hx
            simp [q x hx]
        generalize odd.filter (fun w => !isL s w) = fl at hodd
        have a1 := Int.emod_nonneg (v / 13) (show ((ws3.length : Nat) : Int) + 1 ≠ 0 by omega)
        have a2 := Int.emod_lt_of_pos (v / 13) (show 0 < ((ws3.length : Nat) : Int) + 1 by omega)
        have b1 := Int.emod_nonneg (v / 77) (show (7 : Int) ≠ 0 by omega)
        have b2 := Int.emod_lt_of_pos (v / 77) (show (0 : Int) < 7 by omega)
        obtain ⟨w, hw, hwn⟩ : ∃ w, atI [PyData.int 0, .int s, .int (-s), .int (10 * s + 1), .int (10 - 16 * s), .int (100000000000000000000 + v % 7), .int (-99999999999999999999)] (v / 77 % 7) = some (.int w) ∧ (w = 0 ∨ s ≤ w ∨ w ≤ -s) := by
          rw [at_pos b1]
          have hlt : (v / 77 % 7).toNat < 7 := by omega
          generalize (v / 77 % 7).toNat = j at hlt
          match j, hlt with
          | 0, _ => exact ⟨_, rfl, by omega⟩
          | 1, _ => exact ⟨_, rfl, by omega⟩
          | 2, _ => exact ⟨_, rfl, by omega⟩
          | 3, _ => exact ⟨_, rfl, by omega⟩
          | 4, _ => exact ⟨_, rfl, by omega⟩
          | 5, _ => exact ⟨_, rfl, by omega⟩
          | 6, _ => exact ⟨_, rfl, by omega⟩
        have hw' := hw
        have lw : (ws3.take (v / 13 % ((ws3.length : Int) + 1)).toNat ++ ([w] ++ ws3.drop (v / 13 % ((ws3.length : Int) + 1)).toNat)).length ≤ 1000 := by
          simp only [List.length_append, List.length_take, List.length_drop, List.length_singleton]
          omega
        have q6 := is_word_at (s := s) lw
        have hf : (ws3.take (v / 13 % ((ws3.length : Int) + 1)).toNat ++ ([w] ++ ws3.drop (v / 13 % ((ws3.length : Int) + 1)).toNat)).all (isL s) = false := by
          rw [List.all_append, List.all_append, List.all_cons, no_letter hwn (by omega)]
          simp
        rw [hf] at q6
        simp only [wd] at q5 q4 k3 q6
        rw [List.map_append, List.map_append] at q6
        have c1 : CMul 10 s := .inl ⟨by decide, by decide⟩
        have c2 : CMul 16 s := .inl ⟨by decide, by decide⟩
        have t1 : cutD (ws3.map PyData.int) none (some (v / 13 % ((ws3.length : Int) + 1))) = (ws3.take (v / 13 % ((ws3.length : Int) + 1)).toNat).map PyData.int := by rw [cut_map, cut_to a1]
        have t2 : cutD (ws3.map PyData.int) (some (v / 13 % ((ws3.length : Int) + 1))) none = (ws3.drop (v / 13 % ((ws3.length : Int) + 1)).toNat).map PyData.int := by rw [cut_map, cut_from a1]
        simp -implicitDefEqProofs [-List.map_map, hodd, q5, says_at, k3, c1, c2, hw, q4, t1, t2, -List.map_take, -List.map_drop]
        generalize ws3.take (v / 13 % ((ws3.length : Int) + 1)).toNat = A at lw q6
        generalize ws3.drop (v / 13 % ((ws3.length : Int) + 1)).toNat = Bd at lw q6
        rw [List.map_singleton] at q6
        have q7 : R_is_word [.int s, .tuple (A.map PyData.int ++ PyData.int w :: Bd.map PyData.int)] = some (.bool false) := q6
        rw [if_pos (by omega), if_pos (by omega)]
        simp -implicitDefEqProofs [q7]
      · intro x hx
        by_cases hx0 : x = 0
        · simp -implicitDefEqProofs [isL, hx0]
        · simp -implicitDefEqProofs [isL, hx0]
          generalize (if x < 0 then -x else x) = y
          by_cases hy : y < s
          · rw [decide_eq_true hy, decide_eq_false (by omega)]; rfl
          · rw [decide_eq_false hy, decide_eq_true (by omega)]; rfl
      · intro x hx _; simp
    · intro x hx; simp
    · intro x hx
      have := List.mem_range.mp hx
      have c3 : CMul (x : Int) 5 := .inr ⟨by decide, by decide⟩
      simp -implicitDefEqProofs [c3]
      omega
  · rintro ρ ⟨a, b, c, d, e, f, g, h, k, l, m, n, rfl⟩
    simp
end K01
namespace K01
open PySem PySem.Spec PyProof.Rows L2 DL
theorem all_mk {l : PySem.W.OpenLaw} {w : World} {K : PySem.W.Frag} {h : Heap} {mg : Str → Option Value} {fa f_is_word f_undone f_mirrored f_turned_back f_shifted f_flipped f_total f__law_mixed f__law_word f__law_same f__law_says f__law_right f_law : Addr} (X : K.In h) (G : h.Ns mainGlobals mg) (hfa : mg "law" = some (.ref fa))
    {od_is_word an_is_word od_undone an_undone od_mirrored an_mirrored od_turned_back an_turned_back od_shifted an_shifted od_flipped an_flipped od_total an_total od__law_mixed an__law_mixed od__law_word an__law_word od__law_same an__law_same od__law_says an__law_says od__law_right an__law_right od_law an_law : Option Addr} {sl_is_word sl_undone sl_mirrored sl_turned_back sl_shifted sl_flipped sl_total sl__law_mixed sl__law_word sl__law_same sl__law_says sl__law_right sl_law : Array (Option Value)} {oc_is_word kV_is_word dc_is_word pm_is_word cd_is_word ct_is_word oc_undone kV_undone dc_undone pm_undone cd_undone ct_undone oc_mirrored kV_mirrored dc_mirrored pm_mirrored cd_mirrored ct_mirrored oc_turned_back kV_turned_back dc_turned_back pm_turned_back cd_turned_back ct_turned_back oc_shifted kV_shifted dc_shifted pm_shifted cd_shifted ct_shifted oc_flipped kV_flipped dc_flipped pm_flipped cd_flipped ct_flipped oc_total kV_total dc_total pm_total cd_total ct_total oc__law_mixed kV__law_mixed dc__law_mixed pm__law_mixed cd__law_mixed ct__law_mixed oc__law_word kV__law_word dc__law_word pm__law_word cd__law_word ct__law_word oc__law_same kV__law_same dc__law_same pm__law_same cd__law_same ct__law_same oc__law_says kV__law_says dc__law_says pm__law_says cd__law_says ct__law_says oc__law_right kV__law_right dc__law_right pm__law_right cd__law_right ct__law_right oc_law kV_law dc_law pm_law cd_law ct_law : Value}
    (a_is_word : PySem.W.nsIn K mainGlobals "is_word" = some (some (.ref f_is_word))) (l_is_word : K.lookup f_is_word = some ⟨oc_is_word, od_is_word, .func (PySem.W.fnOf "is_word" "is_word" (defArgs s_is_word) (defBody s_is_word) (defScope s_is_word) .none kV_is_word dc_is_word pm_is_word an_is_word cd_is_word ct_is_word), sl_is_word⟩) (c_is_word : PySem.W.codeIn K cd_is_word "is_word" = true) (k_is_word : PySem.W.keepIn K (.ref f_is_word) = true)
    (a_undone : PySem.W.nsIn K mainGlobals "undone" = some (some (.ref f_undone))) (l_undone : K.lookup f_undone = some ⟨oc_undone, od_undone, .func (PySem.W.fnOf "undone" "undone" (defArgs s_undone) (defBody s_undone) (defScope s_undone) .none kV_undone dc_undone pm_undone an_undone cd_undone ct_undone), sl_undone⟩) (c_undone : PySem.W.codeIn K cd_undone "undone" = true) (k_undone : PySem.W.keepIn K (.ref f_undone) = true)
    (a_mirrored : PySem.W.nsIn K mainGlobals "mirrored" = some (some (.ref f_mirrored))) (l_mirrored : K.lookup f_mirrored = some ⟨oc_mirrored, od_mirrored, .func (PySem.W.fnOf "mirrored" "mirrored" (defArgs s_mirrored) (defBody s_mirrored) (defScope s_mirrored) .none kV_mirrored dc_mirrored pm_mirrored an_mirrored cd_mirrored ct_mirrored), sl_mirrored⟩) (c_mirrored : PySem.W.codeIn K cd_mirrored "mirrored" = true) (k_mirrored : PySem.W.keepIn K (.ref f_mirrored) = true)
    (a_turned_back : PySem.W.nsIn K mainGlobals "turned_back" = some (some (.ref f_turned_back))) (l_turned_back : K.lookup f_turned_back = some ⟨oc_turned_back, od_turned_back, .func (PySem.W.fnOf "turned_back" "turned_back" (defArgs s_turned_back) (defBody s_turned_back) (defScope s_turned_back) .none kV_turned_back dc_turned_back pm_turned_back an_turned_back cd_turned_back ct_turned_back), sl_turned_back⟩) (c_turned_back : PySem.W.codeIn K cd_turned_back "turned_back" = true) (k_turned_back : PySem.W.keepIn K (.ref f_turned_back) = true)
    (a_shifted : PySem.W.nsIn K mainGlobals "shifted" = some (some (.ref f_shifted))) (l_shifted : K.lookup f_shifted = some ⟨oc_shifted, od_shifted, .func (PySem.W.fnOf "shifted" "shifted" (defArgs s_shifted) (defBody s_shifted) (defScope s_shifted) .none kV_shifted dc_shifted pm_shifted an_shifted cd_shifted ct_shifted), sl_shifted⟩) (c_shifted : PySem.W.codeIn K cd_shifted "shifted" = true) (k_shifted : PySem.W.keepIn K (.ref f_shifted) = true)
    (a_flipped : PySem.W.nsIn K mainGlobals "flipped" = some (some (.ref f_flipped))) (l_flipped : K.lookup f_flipped = some ⟨oc_flipped, od_flipped, .func (PySem.W.fnOf "flipped" "flipped" (defArgs s_flipped) (defBody s_flipped) (defScope s_flipped) .none kV_flipped dc_flipped pm_flipped an_flipped cd_flipped ct_flipped), sl_flipped⟩) (c_flipped : PySem.W.codeIn K cd_flipped "flipped" = true) (k_flipped : PySem.W.keepIn K (.ref f_flipped) = true)
    (a_total : PySem.W.nsIn K mainGlobals "total" = some (some (.ref f_total))) (l_total : K.lookup f_total = some ⟨oc_total, od_total, .func (PySem.W.fnOf "total" "total" (defArgs s_total) (defBody s_total) (defScope s_total) .none kV_total dc_total pm_total an_total cd_total ct_total), sl_total⟩) (c_total : PySem.W.codeIn K cd_total "total" = true) (k_total : PySem.W.keepIn K (.ref f_total) = true)
    (a__law_mixed : PySem.W.nsIn K mainGlobals "_law_mixed" = some (some (.ref f__law_mixed))) (l__law_mixed : K.lookup f__law_mixed = some ⟨oc__law_mixed, od__law_mixed, .func (PySem.W.fnOf "_law_mixed" "_law_mixed" (defArgs s__law_mixed) (defBody s__law_mixed) (defScope s__law_mixed) .none kV__law_mixed dc__law_mixed pm__law_mixed an__law_mixed cd__law_mixed ct__law_mixed), sl__law_mixed⟩) (c__law_mixed : PySem.W.codeIn K cd__law_mixed "_law_mixed" = true) (k__law_mixed : PySem.W.keepIn K (.ref f__law_mixed) = true)
    (a__law_word : PySem.W.nsIn K mainGlobals "_law_word" = some (some (.ref f__law_word))) (l__law_word : K.lookup f__law_word = some ⟨oc__law_word, od__law_word, .func (PySem.W.fnOf "_law_word" "_law_word" (defArgs s__law_word) (defBody s__law_word) (defScope s__law_word) .none kV__law_word dc__law_word pm__law_word an__law_word cd__law_word ct__law_word), sl__law_word⟩) (c__law_word : PySem.W.codeIn K cd__law_word "_law_word" = true) (k__law_word : PySem.W.keepIn K (.ref f__law_word) = true)
    (a__law_same : PySem.W.nsIn K mainGlobals "_law_same" = some (some (.ref f__law_same))) (l__law_same : K.lookup f__law_same = some ⟨oc__law_same, od__law_same, .func (PySem.W.fnOf "_law_same" "_law_same" (defArgs s__law_same) (defBody s__law_same) (defScope s__law_same) .none kV__law_same dc__law_same pm__law_same an__law_same cd__law_same ct__law_same), sl__law_same⟩) (c__law_same : PySem.W.codeIn K cd__law_same "_law_same" = true) (k__law_same : PySem.W.keepIn K (.ref f__law_same) = true)
    (a__law_says : PySem.W.nsIn K mainGlobals "_law_says" = some (some (.ref f__law_says))) (l__law_says : K.lookup f__law_says = some ⟨oc__law_says, od__law_says, .func (PySem.W.fnOf "_law_says" "_law_says" (defArgs s__law_says) (defBody s__law_says) (defScope s__law_says) .none kV__law_says dc__law_says pm__law_says an__law_says cd__law_says ct__law_says), sl__law_says⟩) (c__law_says : PySem.W.codeIn K cd__law_says "_law_says" = true) (k__law_says : PySem.W.keepIn K (.ref f__law_says) = true)
    (a__law_right : PySem.W.nsIn K mainGlobals "_law_right" = some (some (.ref f__law_right))) (l__law_right : K.lookup f__law_right = some ⟨oc__law_right, od__law_right, .func (PySem.W.fnOf "_law_right" "_law_right" (defArgs s__law_right) (defBody s__law_right) (defScope s__law_right) .none kV__law_right dc__law_right pm__law_right an__law_right cd__law_right ct__law_right), sl__law_right⟩) (c__law_right : PySem.W.codeIn K cd__law_right "_law_right" = true) (k__law_right : PySem.W.keepIn K (.ref f__law_right) = true)
    (a_law : PySem.W.nsIn K mainGlobals "law" = some (some (.ref f_law))) (l_law : K.lookup f_law = some ⟨oc_law, od_law, .func (PySem.W.fnOf "law" "law" (defArgs s_law) (defBody s_law) (defScope s_law) .none kV_law dc_law pm_law an_law cd_law ct_law), sl_law⟩) (c_law : PySem.W.codeIn K cd_law "law" = true) (k_law : PySem.W.keepIn K (.ref f_law) = true)
    (z_all : PySem.W.nsIn K mainGlobals "all" = some none) (z_abs : PySem.W.nsIn K mainGlobals "abs" = some none) (z_tuple : PySem.W.nsIn K mainGlobals "tuple" = some none) (z_sum : PySem.W.nsIn K mainGlobals "sum" = some none) (z_int : PySem.W.nsIn K mainGlobals "int" = some none) (z_range : PySem.W.nsIn K mainGlobals "range" = some none) (z_isinstance : PySem.W.nsIn K mainGlobals "isinstance" = some none) (z_bool : PySem.W.nsIn K mainGlobals "bool" = some none) (z_list : PySem.W.nsIn K mainGlobals "list" = some none) (z_len : PySem.W.nsIn K mainGlobals "len" = some none) (z_enumerate : PySem.W.nsIn K mainGlobals "enumerate" = some none) {u_MOST_STRANDS : Value} (a_MOST_STRANDS : PySem.W.nsIn K mainGlobals "MOST_STRANDS" = some (some u_MOST_STRANDS)) (r_MOST_STRANDS : ∃ t, u_MOST_STRANDS = Value.int k_MOST_STRANDS_n t) :
    ∃ fd : FuncData, (∀ (s : Shared) (v : Value), BindsTo s fd ⟨[v], []⟩ [("script", v)]) ∧ ∀ base : Heap, K.In base → base.Ns mainGlobals mg → FnOk l.prog w K mg base CX0 4 fa fd ["script"] (spLaw K) := by
  have e := hfa.symm.trans (PySem.W.mg_of X G a_law)
  cases e
  have F_is_word := fun_mk (st := s_is_word) l_is_word c_is_word k_is_word
  have m_is_word := PySem.W.mg_of X G a_is_word
  have b_is_word := F_is_word.binds (ps := ["strands", "word"]) fun _ _ _ _ _ _ us hl => match us, hl with | [_, _], _ => rfl
  have F_undone := fun_mk (st := s_undone) l_undone c_undone k_undone
  have m_undone := PySem.W.mg_of X G a_undone
  have b_undone := F_undone.binds (ps := ["word"]) fun _ _ _ _ _ _ us hl => match us, hl with | [_], _ => rfl
  have F_mirrored := fun_mk (st := s_mirrored) l_mirrored c_mirrored k_mirrored
  have m_mirrored := PySem.W.mg_of X G a_mirrored
  have b_mirrored := F_mirrored.binds (ps := ["word"]) fun _ _ _ _ _ _ us hl => match us, hl with | [_], _ => rfl
  have F_turned_back := fun_mk (st := s_turned_back) l_turned_back c_turned_back k_turned_back
  have m_turned_back := PySem.W.mg_of X G a_turned_back
  have b_turned_back := F_turned_back.binds (ps := ["word"]) fun _ _ _ _ _ _ us hl => match us, hl with | [_], _ => rfl
  have F_shifted := fun_mk (st := s_shifted) l_shifted c_shifted k_shifted
  have m_shifted := PySem.W.mg_of X G a_shifted
  have b_shifted := F_shifted.binds (ps := ["word"]) fun _ _ _ _ _ _ us hl => match us, hl with | [_], _ => rfl
  have F_flipped := fun_mk (st := s_flipped) l_flipped c_flipped k_flipped
  have m_flipped := PySem.W.mg_of X G a_flipped
  have b_flipped := F_flipped.binds (ps := ["strands", "word"]) fun _ _ _ _ _ _ us hl => match us, hl with | [_, _], _ => rfl
  have F_total := fun_mk (st := s_total) l_total c_total k_total
  have m_total := PySem.W.mg_of X G a_total
  have b_total := F_total.binds (ps := ["word"]) fun _ _ _ _ _ _ us hl => match us, hl with | [_], _ => rfl
  have F__law_mixed := fun_mk (st := s__law_mixed) l__law_mixed c__law_mixed k__law_mixed
  have m__law_mixed := PySem.W.mg_of X G a__law_mixed
  have b__law_mixed := F__law_mixed.binds (ps := ["cell", "turn"]) fun _ _ _ _ _ _ us hl => match us, hl with | [_, _], _ => rfl
  have F__law_word := fun_mk (st := s__law_word) l__law_word c__law_word k__law_word
  have m__law_word := PySem.W.mg_of X G a__law_word
  have b__law_word := F__law_word.binds (ps := ["value", "strands", "most"]) fun _ _ _ _ _ _ us hl => match us, hl with | [_, _, _], _ => rfl
  have F__law_same := fun_mk (st := s__law_same) l__law_same c__law_same k__law_same
  have m__law_same := PySem.W.mg_of X G a__law_same
  have b__law_same := F__law_same.binds (ps := ["told", "due"]) fun _ _ _ _ _ _ us hl => match us, hl with | [_, _], _ => rfl
  have F__law_says := fun_mk (st := s__law_says) l__law_says c__law_says k__law_says
  have m__law_says := PySem.W.mg_of X G a__law_says
  have b__law_says := F__law_says.binds (ps := ["told", "due"]) fun _ _ _ _ _ _ us hl => match us, hl with | [_, _], _ => rfl
  have F__law_right := fun_mk (st := s__law_right) l__law_right c__law_right k__law_right
  have m__law_right := PySem.W.mg_of X G a__law_right
  have b__law_right := F__law_right.binds (ps := ["strands", "word"]) fun _ _ _ _ _ _ us hl => match us, hl with | [_, _], _ => rfl
  have F_law := fun_mk (st := s_law) l_law c_law k_law
  have m_law := PySem.W.mg_of X G a_law
  have m_all := PySem.W.mg_none_of X G z_all
  have m_abs := PySem.W.mg_none_of X G z_abs
  have m_tuple := PySem.W.mg_none_of X G z_tuple
  have m_sum := PySem.W.mg_none_of X G z_sum
  have m_int := PySem.W.mg_none_of X G z_int
  have m_range := PySem.W.mg_none_of X G z_range
  have m_isinstance := PySem.W.mg_none_of X G z_isinstance
  have m_bool := PySem.W.mg_none_of X G z_bool
  have m_list := PySem.W.mg_none_of X G z_list
  have m_len := PySem.W.mg_none_of X G z_len
  have m_enumerate := PySem.W.mg_none_of X G z_enumerate
  have c_MOST_STRANDS : mg "MOST_STRANDS" = some u_MOST_STRANDS ∧ RelV (.int k_MOST_STRANDS_n) u_MOST_STRANDS ∧ ∀ H, Dp K H (.int k_MOST_STRANDS_n) (.int k_MOST_STRANDS_n) := ⟨PySem.W.mg_of X G a_MOST_STRANDS, r_MOST_STRANDS, fun _ => .int _⟩
  refine ⟨PySem.W.fnOf "law" "law" (defArgs s_law) (defBody s_law) (defScope s_law) .none kV_law dc_law pm_law an_law cd_law ct_law, fun s v => .of_eq rfl, fun base _ _ => ?_⟩
  have G_is_word : FnOk l.prog w K mg base CX0 1 f_is_word _ ["strands", "word"] (spD K 2 R_is_word) := ok_is_word (k := 0) F_is_word m_all m_abs
  have G_undone : FnOk l.prog w K mg base CX0 1 f_undone _ ["word"] (spD K 1 R_undone) := ok_undone (k := 0) F_undone m_tuple
  have G_mirrored : FnOk l.prog w K mg base CX0 1 f_mirrored _ ["word"] (spD K 1 R_mirrored) := ok_mirrored (k := 0) F_mirrored m_tuple
  have G_turned_back : FnOk l.prog w K mg base CX0 1 f_turned_back _ ["word"] (spD K 1 R_turned_back) := ok_turned_back (k := 0) F_turned_back
  have G_shifted : FnOk l.prog w K mg base CX0 1 f_shifted _ ["word"] (spD K 1 R_shifted) := ok_shifted (k := 0) F_shifted m_tuple
  have G_flipped : FnOk l.prog w K mg base CX0 1 f_flipped _ ["strands", "word"] (spD K 2 R_flipped) := ok_flipped (k := 0) F_flipped m_tuple
  have G_total : FnOk l.prog w K mg base CX0 1 f_total _ ["word"] (spD K 1 R_total) := ok_total (k := 0) F_total m_sum
  have G__law_mixed : FnOk l.prog w K mg base CX0 1 f__law_mixed _ ["cell", "turn"] (spD K 2 R__law_mixed) := ok__law_mixed (k := 0) F__law_mixed m_int
  have G__law_word : FnOk l.prog w K mg base CX0 1 f__law_word _ ["value", "strands", "most"] (spD K 3 R__law_word) := ok__law_word (k := 0) F__law_word m_tuple m_range m_int
  have G__law_same_0 : FnOk l.prog w K mg base CX0 0 f__law_same (PySem.W.fnOf "_law_same" "_law_same" (defArgs s__law_same) (defBody s__law_same) (defScope s__law_same) .none kV__law_same dc__law_same pm__law_same an__law_same cd__law_same ct__law_same) ["told", "due"] (spD K 2 R__law_same_0) := fn_none
  have G__law_same_1 : FnOk l.prog w K mg base CX0 1 f__law_same _ ["told", "due"] (spD K 2 R__law_same_1) := ok__law_same (k := 0) F__law_same G__law_same_0 (by decide) m__law_same k__law_same b__law_same m_isinstance m_int m_bool m_tuple m_list m_range m_len
  have G__law_same_2 : FnOk l.prog w K mg base CX0 2 f__law_same _ ["told", "due"] (spD K 2 R__law_same_2) := ok__law_same (k := 1) F__law_same G__law_same_1 (by decide) m__law_same k__law_same b__law_same m_isinstance m_int m_bool m_tuple m_list m_range m_len
  have G__law_same : FnOk l.prog w K mg base CX0 2 f__law_same _ ["told", "due"] (spD K 2 R__law_same) := G__law_same_2
  have G__law_says : FnOk l.prog w K mg base CX0 1 f__law_says _ ["told", "due"] (spD K 2 R__law_says) := ok__law_says (k := 0) F__law_says m_isinstance m_bool
  have G__law_right : FnOk l.prog w K mg base CX0 3 f__law_right _ ["strands", "word"] (spD K 2 R__law_right) := ok__law_right (k := 2) F__law_right G__law_same (by decide) m__law_same k__law_same b__law_same G_total (by decide) m_total k_total b_total G_flipped (by decide) m_flipped k_flipped b_flipped G_shifted (by decide) m_shifted k_shifted b_shifted G_mirrored (by decide) m_mirrored k_mirrored b_mirrored G_turned_back (by decide) m_turned_back k_turned_back b_turned_back G_undone (by decide) m_undone k_undone b_undone m_len m_tuple m_int m_range
  exact law_of (ok_law (k := 3) F_law G_is_word (by decide) m_is_word k_is_word b_is_word G__law_word (by decide) m__law_word k__law_word b__law_word G__law_says (by decide) m__law_says k__law_says b__law_says G__law_right (by decide) m__law_right k__law_right b__law_right G__law_mixed (by decide) m__law_mixed k__law_mixed b__law_mixed m_enumerate m_len m_abs m_tuple m_range c_MOST_STRANDS) law_at
end K01
open PySem PySem.W PyProof.Rows
set_option maxRecDepth 100000 in
set_option maxHeartbeats 0 in
theorem PySem.Challenge.cw_strandsplaited_k01_words_changed_holds : PySem.Challenge.rw_strandsplaited_k01_words_changed.Holds := by
  w_on; o_law; k_head; (case hw => w_witness2)
  k_fill
  refine L2.walk_of (l := PySem.Challenge.rw_strandsplaited_k01_words_changed) (n := 63) (k := 4) (x := "script") (CX := fun _ => L2.CX0) (sp := fun w => DL.spLaw _) rfl (by decide) rfl ⟨rfl, by decide, by decide⟩ (fun w h Y => PySem.W.kIn_of Y) ?F (fun _ _ a ns hl _ hS => ⟨a, ns, rfl, hS, hl, fun _ => rfl⟩) (fun _ _ _ _ _ h => h)
  case F =>
    intro w mg fa h KX G hmg
    refine' K01.all_mk KX G hmg ?a_is_word ?l_is_word ?c_is_word ?k_is_word ?a_undone ?l_undone ?c_undone ?k_undone ?a_mirrored ?l_mirrored ?c_mirrored ?k_mirrored ?a_turned_back ?l_turned_back ?c_turned_back ?k_turned_back ?a_shifted ?l_shifted ?c_shifted ?k_shifted ?a_flipped ?l_flipped ?c_flipped ?k_flipped ?a_total ?l_total ?c_total ?k_total ?a__law_mixed ?l__law_mixed ?c__law_mixed ?k__law_mixed ?a__law_word ?l__law_word ?c__law_word ?k__law_word ?a__law_same ?l__law_same ?c__law_same ?k__law_same ?a__law_says ?l__law_says ?c__law_says ?k__law_says ?a__law_right ?l__law_right ?c__law_right ?k__law_right ?a_law ?l_law ?c_law ?k_law ?z_all ?z_abs ?z_tuple ?z_sum ?z_int ?z_range ?z_isinstance ?z_bool ?z_list ?z_len ?z_enumerate ?a_MOST_STRANDS ?r_MOST_STRANDS
    (case a_is_word => k_is); (case l_is_word => k_is); (case c_is_word => k_is); (case k_is_word => k_is)
    (case a_undone => k_is); (case l_undone => k_is); (case c_undone => k_is); (case k_undone => k_is)
    (case a_mirrored => k_is); (case l_mirrored => k_is); (case c_mirrored => k_is); (case k_mirrored => k_is)
    (case a_turned_back => k_is); (case l_turned_back => k_is); (case c_turned_back => k_is); (case k_turned_back => k_is)
    (case a_shifted => k_is); (case l_shifted => k_is); (case c_shifted => k_is); (case k_shifted => k_is)
    (case a_flipped => k_is); (case l_flipped => k_is); (case c_flipped => k_is); (case k_flipped => k_is)
    (case a_total => k_is); (case l_total => k_is); (case c_total => k_is); (case k_total => k_is)
    (case a__law_mixed => k_is); (case l__law_mixed => k_is); (case c__law_mixed => k_is); (case k__law_mixed => k_is)
    (case a__law_word => k_is); (case l__law_word => k_is); (case c__law_word => k_is); (case k__law_word => k_is)
    (case a__law_same => k_is); (case l__law_same => k_is); (case c__law_same => k_is); (case k__law_same => k_is)
    (case a__law_says => k_is); (case l__law_says => k_is); (case c__law_says => k_is); (case k__law_says => k_is)
    (case a__law_right => k_is); (case l__law_right => k_is); (case c__law_right => k_is); (case k__law_right => k_is)
    (case a_law => k_is); (case l_law => k_is); (case c_law => k_is); (case k_law => k_is)
    (case z_all => k_is); (case z_abs => k_is); (case z_tuple => k_is); (case z_sum => k_is)
    (case z_int => k_is); (case z_range => k_is); (case z_isinstance => k_is); (case z_bool => k_is)
    (case z_list => k_is); (case z_len => k_is); (case z_enumerate => k_is); (case a_MOST_STRANDS => k_is)
    (case r_MOST_STRANDS => exact ⟨_, rfl⟩)
