import PyProof.Rows.All
import Wide.All
import OpenK.AllK
import Wide.FinOn
import HandS.ForMost
import HandS.Conv
import HandS.Flow
import HandS.Style
import HandS.TupAny
import HandS.TupMul
import HandS.Wide
import HandS.IsInst
import HandS.Deep
import HandS.SortInts
import HandS.ForExc
import HandS.ExcIs
import HandS.NoneIn
import PySem.Challenge.RW_strandsplaited_k02_moves
set_option Elab.async false
set_option linter.all false
set_option maxRecDepth 100000
set_option maxHeartbeats 4000000
/-! DL: a layer of data over the hand layer: what a def yields, as a plain function of plain data. -/
namespace DL
open PySem PySem.Spec PyProof.Rows L2

theorem sqt_mono {K : PySem.W.Frag} {H H' : Hp} {a : Addr} {xs : List V} (e : Same H H') (h : SqT K H a xs) : SqT K H' a xs := by
  rcases h with (h | ⟨o, h⟩) | h
  · exact .inl (.inl (e _ _ h))
  · exact .inl (.inr ⟨o, e _ _ h⟩)
  · exact .inr h
theorem same_upd {H : Hp} {p : Addr} {o : HO} (h : H p = none) : Same H (upd H p o) := fun b x e => by
  rw [upd_ne (ne_of_none e h)]
  exact e
theorem same_mut {H H' : Hp} {p : Addr} {o : HO} (e : Same H H') (h : H p = none) : Same H (upd H' p o) := fun b x q => by
  rw [upd_ne (ne_of_none q h)]
  exact e _ _ q

mutual
theorem dp_mono {K : PySem.W.Frag} {H H' : Hp} (e : Same H H') : ∀ (d : PyData) (v : V), Dp K H v d → Dp K H' v d
  | .none, _, h => by cases h; exact .non
  | .bool b, _, h => by cases h; exact .bl b
  | .int i, _, h => by cases h; exact .int i
  | .str x, _, h => by cases h; exact .str x
  | .list ds, _, h => by
    cases h with
    | lst hs ha => exact .lst (e.seq hs) (dpa_mono e ds _ ha)
  | .tuple ds, _, h => by
    cases h with
    | tup hs ha => exact .tup (sqt_mono e hs) (dpa_mono e ds _ ha)
  | .dict _, _, h => by cases h
theorem dpa_mono {K : PySem.W.Frag} {H H' : Hp} (e : Same H H') : ∀ (ds : List PyData) (vs : List V), DpAll K H vs ds → DpAll K H' vs ds
  | [], _, h => by cases h; exact .nil
  | d :: ds, _, h => by
    cases h with
    | cons h1 h2 => exact .cons (dp_mono e d _ h1) (dpa_mono e ds _ h2)
end
section
variable {K : PySem.W.Frag} {H : Hp}
theorem dpa_len : ∀ {vs : List V} {ds : List PyData}, DpAll K H vs ds → vs.length = ds.length
  | _, _, .nil => rfl
  | _, _, .cons _ t => by rw [List.length_cons, List.length_cons, dpa_len t]
theorem dpa_app : ∀ {vs ws : List V} {ds es : List PyData}, DpAll K H vs ds → DpAll K H ws es → DpAll K H (vs ++ ws) (ds ++ es)
  | _, _, _, _, .nil, h => h
  | _, _, _, _, .cons a t, h => .cons a (dpa_app t h)
theorem dpa_take : ∀ {vs : List V} {ds : List PyData} (n : Nat), DpAll K H vs ds → DpAll K H (vs.take n) (ds.take n)
  | _, _, 0, _ => by rw [List.take_zero, List.take_zero]; exact .nil
  | _, _, _ + 1, .nil => .nil
  | _, _, n + 1, .cons a t => .cons a (dpa_take n t)
theorem dpa_drop : ∀ {vs : List V} {ds : List PyData} (n : Nat), DpAll K H vs ds → DpAll K H (vs.drop n) (ds.drop n)
  | _, _, 0, h => h
  | _, _, _ + 1, .nil => .nil
  | _, _, n + 1, .cons a t => dpa_drop n t
theorem dpa_get : ∀ {vs : List V} {ds : List PyData} {i : Nat} {d : PyData}, DpAll K H vs ds → ds[i]? = some d → ∃ v, vs[i]? = some v ∧ Dp K H v d
  | _, _, _, _, .nil, e => by simp at e
  | _, _, 0, _, .cons r _, e => by simp at e; subst e; exact ⟨_, rfl, r⟩
  | _, _, i + 1, _, .cons _ t, e => by
    obtain ⟨u, h1, h2⟩ := dpa_get (i := i) t (by simpa using e)
    exact ⟨u, by simpa using h1, h2⟩
theorem dpa_at : ∀ {vs : List V} {ds : List PyData} {i : Nat} {v : V}, DpAll K H vs ds → vs[i]? = some v → ∃ d, ds[i]? = some d ∧ Dp K H v d
  | _, _, _, _, .nil, e => by simp at e
  | _, _, 0, _, .cons r _, e => by simp at e; subst e; exact ⟨_, rfl, r⟩
  | _, _, i + 1, _, .cons _ t, e => by
    obtain ⟨u, h1, h2⟩ := dpa_at (i := i) t (by simpa using e)
    exact ⟨u, by simpa using h1, h2⟩
theorem dpa_set {v : V} {d : PyData} (r : Dp K H v d) : ∀ {vs : List V} {ds : List PyData} (i : Nat), DpAll K H vs ds → DpAll K H (vs.set i v) (ds.set i d)
  | _, _, _, .nil => .nil
  | _, _, 0, .cons _ t => .cons r t
  | _, _, i + 1, .cons q t => .cons q (dpa_set r i t)
theorem dpa_ints : ∀ ns : List Int, DpAll K H (ns.map V.int) (ns.map PyData.int)
  | [] => .nil
  | n :: ns => .cons (.int n) (dpa_ints ns)
theorem dpa_ints' : ∀ {vs : List V} {ns : List Int}, DpAll K H vs (ns.map PyData.int) → vs = ns.map V.int
  | _, [], h => by cases h; rfl
  | _, n :: ns, h => by
    cases h with
    | cons a t =>
      cases a
      rw [dpa_ints' t, List.map_cons]
end

/-! ### slots, results -/
inductive Slot where
  | und
  | d (x : PyData)
  | own (xs : List PyData)
  | pin (v : V)
abbrev Rho := List Slot
inductive Res where
  | fz (x : PyData)
  | nw (xs : List PyData)
  | br (xs : List PyData)
def Res.rd : Res → PyData
  | .fz x => x
  | .nw xs => .list xs
  | .br xs => .list xs

def SlRep (K : PySem.W.Frag) (B Hf H : Hp) : Slot → Option V → Prop
  | .und, _ => True
  | .d x, o => ∃ v, o = some v ∧ Dp K Hf v x
  | .own xs, o => ∃ p vs, o = some (.ref p) ∧ Hf p = none ∧ B p = none ∧ H p = some (.lst vs) ∧ DpAll K Hf vs xs
  | .pin v, o => o = some v
structure ER (K : PySem.W.Frag) (B Hf H : Hp) (σ : L2.St) (ρ : Rho) : Prop where
  fh : Same Hf H
  bh : Same B H
  len : σ.length = ρ.length
  sl : ∀ (i : Nat) (s : Slot) (o : Option V), ρ[i]? = some s → σ[i]? = some o → SlRep K B Hf H s o
  dj : ∀ (i j : Nat) (xs ys : List PyData) (p : Addr), i ≠ j → ρ[i]? = some (.own xs) → ρ[j]? = some (.own ys) → σ[i]? = some (some (.ref p)) → σ[j]? = some (some (.ref p)) → False

/-- what an expression may do -/
structure Gr (Hf H Hf' H' : Hp) : Prop where
  f : Same Hf Hf'
  h : Same H H'
  fh : Same Hf' H'
  un : ∀ a o, H a = some o → Hf a = none → Hf' a = none
theorem Gr.refl {Hf H : Hp} (e : Same Hf H) : Gr Hf H Hf H := ⟨Same.refl _, Same.refl _, e, fun _ _ _ h => h⟩
theorem Gr.trans {Hf H Hf1 H1 Hf2 H2 : Hp} (a : Gr Hf H Hf1 H1) (b : Gr Hf1 H1 Hf2 H2) : Gr Hf H Hf2 H2 :=
  ⟨a.f.trans b.f, a.h.trans b.h, b.fh, fun x o e n => b.un x o (a.h x o e) (a.un x o e n)⟩
/-- a new object, frozen at once -/
theorem Gr.new {Hf H : Hp} {p : Addr} {o : HO} (e : Same Hf H) (h : H p = none) : Gr Hf H (upd Hf p o) (upd H p o) := by
  have hf : Hf p = none := e.free h
  refine ⟨same_upd hf, same_upd h, fun a x q => ?_, fun a x q n => ?_⟩
  · by_cases z : a = p
    · subst z; rw [upd_same] at q ⊢; exact q
    · rw [upd_ne z] at q ⊢; exact e _ _ q
  · rw [upd_ne (ne_of_none q h)]; exact n
/-- a new object, not frozen -/
theorem Gr.newU {Hf H : Hp} {p : Addr} {o : HO} (e : Same Hf H) (h : H p = none) : Gr Hf H Hf (upd H p o) :=
  ⟨Same.refl _, same_upd h, e.trans (same_upd h), fun _ _ _ n => n⟩

def RR (K : PySem.W.Frag) (B H0 Hf H : Hp) (v : V) : Res → Prop
  | .fz x => Dp K Hf v x
  | .nw xs => ∃ p vs, v = .ref p ∧ H0 p = none ∧ Hf p = none ∧ H p = some (.lst vs) ∧ DpAll K Hf vs xs
  | .br xs => ∃ p vs, v = .ref p ∧ Hf p = none ∧ B p = none ∧ H p = some (.lst vs) ∧ DpAll K Hf vs xs

section
variable {K : PySem.W.Frag} {B H0 Hf H Hf' H' : Hp} {σ : L2.St} {ρ : Rho} {v : V} {r : Res}
theorem ER.grow (er : ER K B Hf H σ ρ) (g : Gr Hf H Hf' H') : ER K B Hf' H' σ ρ := by
  refine ⟨g.fh, er.bh.trans g.h, er.len, fun i s o h1 h2 => ?_, er.dj⟩
  have q := er.sl i s o h1 h2
  cases s with
  | und => trivial
  | pin v => exact q
  | d x => obtain ⟨v, e, hd⟩ := q; exact ⟨v, e, dp_mono g.f _ _ hd⟩
  | own xs =>
    obtain ⟨p, vs, e, h3, h4, h5, h6⟩ := q
    exact ⟨p, vs, e, g.un p _ h5 h3, h4, g.h _ _ h5, dpa_mono g.f _ _ h6⟩
theorem RR.grow (q : RR K B H0 Hf H v r) (g : Gr Hf H Hf' H') : RR K B H0 Hf' H' v r := by
  cases r with
  | fz x => exact dp_mono g.f _ _ q
  | nw xs => obtain ⟨p, vs, e, h0, h3, h5, h6⟩ := q; exact ⟨p, vs, e, h0, g.un p _ h5 h3, g.h _ _ h5, dpa_mono g.f _ _ h6⟩
  | br xs => obtain ⟨p, vs, e, h3, h4, h5, h6⟩ := q; exact ⟨p, vs, e, g.un p _ h5 h3, h4, g.h _ _ h5, dpa_mono g.f _ _ h6⟩
theorem RR.back {H1 : Hp} (q : RR K B H1 Hf H v r) (s : Same H0 H1) : RR K B H0 Hf H v r := by
  cases r with
  | fz x => exact q
  | nw xs => obtain ⟨p, vs, e, h0, h3⟩ := q; exact ⟨p, vs, e, s.free h0, h3⟩
  | br xs => exact q
theorem RR.dp (q : RR K B H0 Hf H v r) (e : Same Hf H) : Dp K H v r.rd := by
  cases r with
  | fz x => exact dp_mono e _ _ q
  | nw xs => obtain ⟨p, vs, rfl, h0, h3, h5, h6⟩ := q; exact .lst (SqL.of h5) (dpa_mono e _ _ h6)
  | br xs => obtain ⟨p, vs, rfl, h3, h4, h5, h6⟩ := q; exact .lst (SqL.of h5) (dpa_mono e _ _ h6)
theorem RR.lst {xs : List PyData} (q : RR K B H0 Hf H v r) (e : Same Hf H) (h : r.rd = .list xs) : ∃ a vs, v = .ref a ∧ SqL K H a vs ∧ DpAll K Hf vs xs := by
  cases r with
  | fz x =>
    have h' : x = .list xs := h
    subst h'
    have q' : Dp K Hf v (.list xs) := q
    cases q' with
    | lst hs ha => exact ⟨_, _, rfl, e.seq hs, ha⟩
  | nw ys =>
    obtain ⟨p, vs, rfl, h0, h3, h5, h6⟩ := q
    cases h
    exact ⟨_, _, rfl, SqL.of h5, h6⟩
  | br ys =>
    obtain ⟨p, vs, rfl, h3, h4, h5, h6⟩ := q
    cases h
    exact ⟨_, _, rfl, SqL.of h5, h6⟩
theorem RR.fz_of {x : PyData} (q : RR K B H0 Hf H v r) (h : r.rd = x) (hn : ∀ xs, x ≠ .list xs) : Dp K Hf v x := by
  cases r with
  | fz y => cases h; exact q
  | nw ys => exact absurd h.symm (hn ys)
  | br ys => exact absurd h.symm (hn ys)
theorem RR.tup {xs : List PyData} (q : RR K B H0 Hf H v r) (h : r.rd = .tuple xs) : ∃ a vs, v = .ref a ∧ SqT K Hf a vs ∧ DpAll K Hf vs xs := by
  have q' := q.fz_of h (fun _ z => by cases z)
  cases q' with
  | tup hs ha => exact ⟨_, _, rfl, hs, ha⟩
theorem RR.int {i : Int} (q : RR K B H0 Hf H v r) (h : r.rd = .int i) : v = .int i := by
  have q' := q.fz_of h (fun _ z => by cases z)
  cases q'; rfl
theorem RR.bl {i : Bool} (q : RR K B H0 Hf H v r) (h : r.rd = .bool i) : v = .bl i := by
  have q' := q.fz_of h (fun _ z => by cases z)
  cases q'; rfl
theorem RR.str {i : Str} (q : RR K B H0 Hf H v r) (h : r.rd = .str i) : v = .str i := by
  have q' := q.fz_of h (fun _ z => by cases z)
  cases q'; rfl
theorem RR.non (q : RR K B H0 Hf H v r) (h : r.rd = .none) : v = .non := by
  have q' := q.fz_of h (fun _ z => by cases z)
  cases q'; rfl
/-- made to stand still -/
def Res.fr : Res → Option PyData
  | .fz x => some x
  | .nw xs => some (.list xs)
  | .br _ => none
/-- a result that is no slot's own list is frozen -/
theorem RR.freeze {x : PyData} (er : ER K B Hf H σ ρ) (g : Gr Hf H Hf' H') (q : RR K B H Hf' H' v r) (h : r.fr = some x) : ∃ Hf2, Gr Hf H Hf2 H' ∧ Same Hf' Hf2 ∧ Dp K Hf2 v x := by
  cases r with
  | fz y => cases h; exact ⟨Hf', g, Same.refl _, q⟩
  | nw ys =>
    obtain ⟨p, vs, rfl, h0, h3, h5, h6⟩ := q
    cases h
    refine ⟨upd Hf' p (.lst vs), ⟨g.f.trans (same_upd h3), g.h, fun a o e => ?_, fun a o e n => ?_⟩, same_upd h3, .lst (SqL.of upd_same) (dpa_mono (same_upd h3) _ _ h6)⟩
    · by_cases z : a = p
      · subst z; rw [upd_same] at e; cases e; exact h5
      · rw [upd_ne z] at e; exact g.fh _ _ e
    · rw [upd_ne (ne_of_none e h0)]; exact g.un a o e n
  | br ys => cases h
end

/-! ### the judgements -/
abbrev FE := Rho → Option Res
def tD (K : PySem.W.Frag) (f : FE) : TE := fun σ H Q => ∃ B Hf ρ r, ER K B Hf H σ ρ ∧ f ρ = some r ∧ ∀ v Hf' H', Gr Hf H Hf' H' → RR K B H Hf' H' v r → Q v H'
abbrev DE (X : Cx) (e : Expr) (f : FE) : Prop := PE X e (tD X.K f)
def tDT (K : PySem.W.Frag) (f : Rho → Option Bool) : TT := fun σ H Q => ∃ B Hf ρ b, ER K B Hf H σ ρ ∧ f ρ = some b ∧ ∀ Hf' H', Gr Hf H Hf' H' → Q b H'
abbrev DT (X : Cx) (e : Expr) (f : Rho → Option Bool) : Prop := PT X e (tDT X.K f)
abbrev FA := Rho → Option (List Res)
inductive RRs (K : PySem.W.Frag) (B H0 Hf H : Hp) : List V → List Res → Prop
  | nil : RRs K B H0 Hf H [] []
  | cons {v : V} {vs : List V} {r : Res} {rs : List Res} : RR K B H0 Hf H v r → RRs K B H0 Hf H vs rs → RRs K B H0 Hf H (v :: vs) (r :: rs)
def tDA (K : PySem.W.Frag) (f : FA) : TA := fun σ H Q => ∃ B Hf ρ rs, ER K B Hf H σ ρ ∧ f ρ = some rs ∧ ∀ vs Hf' H', Gr Hf H Hf' H' → RRs K B H Hf' H' vs rs → Q vs H'
abbrev DA (X : Cx) (es : List Expr) (f : FA) : Prop := PA X es (tDA X.K f)

theorem pe_mono {X : Cx} {e : Expr} {t t' : TE} (h : PE X e t) (k : ∀ σ H Q, t' σ H Q → t σ H Q) : PE X e t' := ⟨fun pins s σ H Q I q => h.run pins s σ H Q I (k _ _ _ q)⟩
theorem pt_mono {X : Cx} {e : Expr} {t t' : TT} (h : PT X e t) (k : ∀ σ H Q, t' σ H Q → t σ H Q) : PT X e t' := ⟨fun pins s σ H Q I q => h.run pins s σ H Q I (k _ _ _ q)⟩
theorem pa_mono {X : Cx} {e : List Expr} {t t' : TA} (h : PA X e t) (k : ∀ σ H Q, t' σ H Q → t σ H Q) : PA X e t' := ⟨fun pos pins s σ H Q I q => h.run pos pins s σ H Q I (k _ _ _ q)⟩
theorem ps_mono {X : Cx} {e : Stmt} {t t' : TS} (h : PS X e t) (k : ∀ D σ H, t' D σ H → t D σ H) : PS X e t' := ⟨fun pins s σ H D I q => h.run pins s σ H D I (k _ _ _ q)⟩
theorem pss_mono {X : Cx} {e : List Stmt} {t t' : TS} (h : PSs X e t) (k : ∀ D σ H, t' D σ H → t D σ H) : PSs X e t' := ⟨fun pins s σ H D I q => h.run pins s σ H D I (k _ _ _ q)⟩
theorem pi_mono {X : Cx} {tg e : Expr} {t t' : TI} (h : PI X tg e t) (k : ∀ σ H Q, t' σ H Q → t σ H Q) : PI X tg e t' := ⟨fun pins s σ H Q I q => h.run pins s σ H Q I (k _ _ _ q)⟩
theorem pg_mono {X : Cx} {e : Expr} {t t' : TG} (h : PG X e t) (k : ∀ v σ H Q, t' v σ H Q → t v σ H Q) : PG X e t' := ⟨fun pins s σ H v u Q I r q => h.run pins s σ H v u Q I r (k _ _ _ _ q)⟩

section
variable {X : Cx} {a b c e : Expr} {es : List Expr} {fa fb fc : FE} {pos : Pos}

/-! ### names, constants -/
def fVar (i : Nat) : FE := fun ρ => match ρ[i]? with
  | some (.d x) => some (.fz x)
  | some (.own xs) => some (.br xs)
  | _ => none
theorem d_var (i : Nat) {x : Str} {pos : Pos} (hN : X.N[i]? = some x := by rfl) (hv : Vis X.env.scope x := by first | exact Or.inl rfl | exact Or.inr (Or.inl rfl) | exact Or.inr (Or.inr rfl)) (hd : (x == ("__debug__" : Str)) = false := by decide)
    (hcd : (x == ("__classdict__" : Str)) = false := by decide) : DE X (.Name x pos) (fVar i) := pe_mono (pe_var hN hv hd hcd) fun σ H Q h => by
  obtain ⟨B, Hf, ρ, r, er, hf, k⟩ := h
  unfold fVar at hf
  cases hs : ρ[i]? with
  | none => rw [hs] at hf; cases hf
  | some s =>
    rw [hs] at hf
    have hi : i < σ.length := by rw [er.len]; exact (List.getElem?_eq_some_iff.mp hs).1
    have ho : σ[i]? = some σ[i] := List.getElem?_eq_getElem hi
    have q := er.sl i s _ hs ho
    cases s with
    | und => cases hf
    | pin v => cases hf
    | d x =>
      cases hf
      obtain ⟨v, e, hd⟩ := q
      exact ⟨v, by rw [ho, e], k v Hf H (Gr.refl er.fh) hd⟩
    | own xs =>
      cases hf
      obtain ⟨p, vs, e, h3, h4, h5, h6⟩ := q
      exact ⟨.ref p, by rw [ho, e], k _ Hf H (Gr.refl er.fh) ⟨p, vs, rfl, h3, h4, h5, h6⟩⟩
def fC (x : PyData) : FE := fun _ => some (.fz x)
theorem d_c {v : V} {x : PyData} (h : PE X e (tC v)) (hd : ∀ H, Dp X.K H v x) : DE X e (fC x) := pe_mono h fun σ H Q h => by
  obtain ⟨B, Hf, ρ, r, er, hf, k⟩ := h
  cases hf
  exact k v Hf H (Gr.refl er.fh) (hd _)
theorem d_int {i j pos} : DE X (.Constant (.int i) j pos) (fC (.int i)) := d_c pe_int fun _ => .int _
theorem d_bl {i j pos} : DE X (.Constant (.bool i) j pos) (fC (.bool i)) := d_c pe_bl fun _ => .bl _
theorem d_non {j pos} : DE X (.Constant .none j pos) (fC .none) := d_c pe_non fun _ => .non
theorem d_str {i j pos} : DE X (.Constant (.str i) j pos) (fC (.str i)) := d_c pe_str fun _ => .str _
theorem d_glob {x : Str} {v : V} {y : PyData} {u : Value} {pos : Pos} (hg : Gl X x) (hm : X.mg x = some u) (r : RelV v u) (hd : ∀ H, Dp X.K H v y) (h2 : (x == ("__debug__" : Str)) = false := by decide) : DE X (.Name x pos) (fC y) := d_c (pe_glob hg hm r h2) hd

/-! ### two operands -/
/-- what an operation on values asks, by data -/
def Op2 (K : PySem.W.Frag) (r : R2) (g : PyData → PyData → Option Res) : Prop :=
  ∀ (B H0 Hf H : Hp) (v u : V) (a b c : Res) (Q : VK), Same Hf H → Same H0 H → RR K B H0 Hf H v a → RR K B H0 Hf H u b → g a.rd b.rd = some c →
    (∀ w Hf' H', Gr Hf H Hf' H' → RR K B H Hf' H' w c → Q w H') → r v u H Q
def f2 (g : PyData → PyData → Option Res) (fa fb : FE) : FE := fun ρ => (fa ρ).bind fun a => (fb ρ).bind fun b => g a.rd b.rd
theorem ent2 {K : PySem.W.Frag} {r : R2} {g : PyData → PyData → Option Res} (o : Op2 K r g) : ∀ σ H Q, tD K (f2 g fa fb) σ H Q → tOp r (tD K fa) (tD K fb) σ H Q := fun σ H Q h => by
  obtain ⟨B, Hf, ρ, c, er, hf, k⟩ := h
  unfold f2 at hf
  obtain ⟨ra, h1, hf⟩ := Option.bind_eq_some_iff.mp hf
  obtain ⟨rb, h2, hf⟩ := Option.bind_eq_some_iff.mp hf
  refine ⟨B, Hf, ρ, ra, er, h1, fun v Hf1 H1 g1 q1 => ⟨B, Hf1, ρ, rb, er.grow g1, h2, fun u Hf2 H2 g2 q2 => ?_⟩⟩
  have g12 := g1.trans g2
  exact o B H Hf2 H2 v u ra rb c Q g2.fh g12.h (q1.grow g2) (q2.back g1.h) hf fun w Hf3 H3 g3 q3 => k w Hf3 H3 (g12.trans g3) (q3.back g12.h)
theorem d_op {op : Operator} {r : R2} {g : PyData → PyData → Option Res} (ho : OpR X (binaryOp op) r) (o : Op2 X.K r g) (ha : DE X a fa) (hb : DE X b fb) : DE X (.BinOp a op b pos) (f2 g fa fb) := pe_mono (pe_op ho ha hb) (ent2 o)
theorem d_cmp {op : CmpOp} {r : R2} {g : PyData → PyData → Option Res} (ho : OpR X (compareOp op) r) (o : Op2 X.K r g) (ha : DE X a fa) (hb : DE X b fb) (hm : behindInMarks op b = false) : DE X (.Compare a [op] [b] pos) (f2 g fa fb) := pe_mono (pe_cmpR ho ha hb hm) (ent2 o)
/-- a bool, as a test -/
def fB (f : FE) : Rho → Option Bool := fun ρ => (f ρ).bind fun r => match r.rd with
  | .bool b => some b
  | _ => none
theorem fB_some {f : FE} {ρ : Rho} {b : Bool} (h : fB f ρ = some b) : ∃ r, f ρ = some r ∧ r.rd = .bool b := by
  unfold fB at h
  obtain ⟨r, h1, h2⟩ := Option.bind_eq_some_iff.mp h
  refine ⟨r, h1, ?_⟩
  split at h2
  · rename_i q; cases h2; exact q
  · cases h2
theorem t_cmp {op : CmpOp} {r : R2} {g : PyData → PyData → Option Res} (ho : OpR X (compareOp op) r) (o : Op2 X.K r g) (ha : DE X a fa) (hb : DE X b fb) (hm : behindInMarks op b = false) : DT X (.Compare a [op] [b] pos) (fB (f2 g fa fb)) := pt_mono (pt_cmpR ho ha hb hm) fun σ H Q h => by
  obtain ⟨B, Hf, ρ, c, er, hf, k⟩ := h
  obtain ⟨r', h1, h2⟩ := fB_some hf
  exact ent2 o σ H _ ⟨B, Hf, ρ, r', er, h1, fun v Hf' H' g' q => ⟨c, q.bl h2, k Hf' H' g'⟩⟩

theorem Op2.or {K : PySem.W.Frag} {r r' : R2} {g g' : PyData → PyData → Option Res} (h : Op2 K r g) (h' : Op2 K r' g') : Op2 K (fun x y H Q => r x y H Q ∨ r' x y H Q) (fun a b => (g a b).or (g' a b)) := fun B H0 Hf H v u a b c Q e1 e2 q1 q2 hg k => by
  rcases Option.or_eq_some_iff.mp hg with z | ⟨_, z⟩
  · exact .inl (h B H0 Hf H v u a b c Q e1 e2 q1 q2 z k)
  · exact .inr (h' B H0 Hf H v u a b c Q e1 e2 q1 q2 z k)
end
end DL
namespace DL
open PySem PySem.Spec PyProof.Rows L2

abbrev small (n : Nat) : Prop := n ≤ 100000
theorem sm_line {n : Nat} (h : small n) : n ≤ sizeLine := Nat.le_trans h (by decide)

instance (i j : Int) : Decidable (CMul i j) := by unfold CMul; infer_instance
/-! ### + -/
def rCatL (K : PySem.W.Frag) : R2 := fun x y H Q => ∃ l b xs zs, x = .ref l ∧ y = .ref b ∧ SqL K H l xs ∧ SqL K H b zs ∧ xs.length + zs.length ≤ sizeLine ∧ ∀ p, H p = none → Q (.ref p) (upd H p (.lst (xs ++ zs)))
theorem op_catL {X : Cx} : OpR X (binaryOp .Add) (rCatL X.K) := by
  intro pins s σ H x y v u Q I rx ry h
  obtain ⟨l, b, xs, zs, rfl, rfl, hH, hB, hz, q⟩ := h
  cases rx
  cases ry
  obtain ⟨its, r, ⟨⟨cls, dd, data, sl⟩, n, ho, hc, hd, hdat⟩, hz1⟩ := I.list hH
  obtain ⟨its2, r2, ⟨⟨cls2, dd2, data2, sl2⟩, n2, ho2, hc2, hd2, hdat2⟩, hz2⟩ := I.list hB
  simp only at hc hdat hc2 hdat2
  subst hc hdat hc2 hdat2
  have h1 := r.length
  have h2 := r2.length
  refine concat_meets ⟨_, ho, rfl⟩ ⟨_, ho2, rfl⟩ noFill_list_add seq_list_add PySem.F.slot_list_add PySem.F.entry_list_add (PySem.F.args_list_add_2 _ _) (list_addW l b its.toArray its2.toArray n n2 dd dd2 sl sl2 (by simp only [List.size_toArray]; omega)) ⟨ho, ho2, ?_⟩
  have ea : its.toArray ++ its2.toArray = (its ++ its2).toArray := by simp
  rw [ea]
  exact ⟨.ref _, _, I.lnew (t' := s.toks) (r.append r2) (by rw [List.length_append]; omega), rfl, q _ I.fresh⟩

def rAdd (K : PySem.W.Frag) : R2 := fun x y H Q => (rI0 (fun i j => .int (i + j)) x y H Q ∨ rCatL K x y H Q) ∨ (rCatA K x y H Q ∨ (∃ i j, x = .str i ∧ y = .str j ∧ i.length + j.length ≤ sizeLine ∧ Q (.str (i ++ j)) H))
theorem op_addD {X : Cx} : OpR X (binaryOp .Add) (rAdd X.K) := (op_add.or op_catL).or (op_catA.or op_add_str)
def gAdd : PyData → PyData → Option Res
  | .int i, .int j => some (.fz (.int (i + j)))
  | .list xs, .list ys => if small (xs.length + ys.length) then some (.nw (xs ++ ys)) else none
  | .tuple xs, .tuple ys => if small (xs.length + ys.length) then some (.fz (.tuple (xs ++ ys))) else none
  | .str x, .str y => if small (x.length + y.length) then some (.fz (.str (x ++ y))) else none
  | _, _ => none
theorem o_add {K : PySem.W.Frag} : Op2 K (rAdd K) gAdd := fun B H0 Hf H v u a b c Q e1 e2 q1 q2 hg k => by
  unfold gAdd at hg
  split at hg
  · rename_i i j h1 h2
    cases hg
    exact .inl (.inl ⟨i, j, q1.int h1, q2.int h2, k _ Hf H (Gr.refl e1) (Dp.int _)⟩)
  · rename_i xs ys h1 h2
    split at hg
    · rename_i hz
      cases hg
      obtain ⟨l, vs, rfl, s1, d1⟩ := q1.lst e1 h1
      obtain ⟨l2, ws, rfl, s2, d2⟩ := q2.lst e1 h2
      refine .inl (.inr ⟨l, l2, vs, ws, rfl, rfl, s1, s2, by rw [dpa_len d1, dpa_len d2]; exact sm_line hz, fun p hp => ?_⟩)
      exact k _ Hf _ (Gr.newU e1 hp) ⟨p, _, rfl, hp, e1.free hp, upd_same, dpa_app d1 d2⟩
    · cases hg
  · rename_i xs ys h1 h2
    split at hg
    · rename_i hz
      cases hg
      obtain ⟨l, vs, rfl, s1, d1⟩ := q1.tup h1
      obtain ⟨l2, ws, rfl, s2, d2⟩ := q2.tup h2
      refine .inr (.inl ⟨l, l2, vs, ws, rfl, rfl, sqt_mono e1 s1, sqt_mono e1 s2, by rw [dpa_len d1, dpa_len d2]; exact sm_line hz, fun z => ?_, fun z1 z2 => ?_, fun z1 z2 p hp => ?_⟩)
      · subst z
        cases d1
        exact k _ Hf H (Gr.refl e1) (Dp.tup s2 d2)
      · subst z2
        cases d2
        rw [List.append_nil] at k
        exact k _ Hf H (Gr.refl e1) (Dp.tup s1 d1)
      · exact k _ _ _ (Gr.new e1 hp) (Dp.tup (SqT.of upd_same) (dpa_mono (same_upd (e1.free hp)) _ _ (dpa_app d1 d2)))
    · cases hg
  · rename_i x y h1 h2
    split at hg
    · rename_i hz
      cases hg
      exact .inr (.inr ⟨x, y, q1.str h1, q2.str h2, sm_line hz, k _ Hf H (Gr.refl e1) (Dp.str _)⟩)
    · cases hg
  · cases hg
section
variable {X : Cx} {a b c e : Expr} {es : List Expr} {fa fb fc : FE} {pos : Pos}
theorem d_add (ha : DE X a fa) (hb : DE X b fb) : DE X (.BinOp a .Add b pos) (f2 gAdd fa fb) := d_op op_addD o_add ha hb

/-! ### ints -/
/-- a rule of two ints -/
theorem o_int {K : PySem.W.Frag} {C : Int → Int → Prop} {h : Int → Int → Int} {g : PyData → PyData → Option Res}
    (hg : ∀ x y c, g x y = some c → ∃ i j, x = .int i ∧ y = .int j ∧ C i j ∧ c = .fz (.int (h i j))) : Op2 K (rI C fun i j => .int (h i j)) g := fun B H0 Hf H v u a b c Q e1 e2 q1 q2 z k => by
  obtain ⟨i, j, h1, h2, hc, rfl⟩ := hg _ _ _ z
  exact ⟨i, j, q1.int h1, q2.int h2, hc, k _ Hf H (Gr.refl e1) (Dp.int _)⟩
theorem o_cmp {K : PySem.W.Frag} {h : Int → Int → Bool} {g : PyData → PyData → Option Res}
    (hg : ∀ x y c, g x y = some c → ∃ i j, x = .int i ∧ y = .int j ∧ c = .fz (.bool (h i j))) : Op2 K (rI0 fun i j => .bl (h i j)) g := fun B H0 Hf H v u a b c Q e1 e2 q1 q2 z k => by
  obtain ⟨i, j, h1, h2, rfl⟩ := hg _ _ _ z
  exact ⟨i, j, q1.int h1, q2.int h2, k _ Hf H (Gr.refl e1) (Dp.bl _)⟩
def gMinus : PyData → PyData → Option Res
  | .int i, .int j => some (.fz (.int (i - j)))
  | _, _ => none
theorem o_sub {K : PySem.W.Frag} : Op2 K (rI0 fun i j => .int (i - j)) gMinus := fun B H0 Hf H v u a b c Q e1 e2 q1 q2 hg k => by
  unfold gMinus at hg
  split at hg
  · rename_i i j h1 h2
    cases hg
    exact ⟨i, j, q1.int h1, q2.int h2, k _ Hf H (Gr.refl e1) (Dp.int _)⟩
  · cases hg
theorem d_sub (ha : DE X a fa) (hb : DE X b fb) : DE X (.BinOp a .Sub b pos) (f2 gMinus fa fb) := d_op op_sub o_sub ha hb
def gDiv : PyData → PyData → Option Res
  | .int i, .int j => if 0 < j ∧ j < 2 ^ 200 then some (.fz (.int (i / j))) else none
  | _, _ => none
theorem d_div (ha : DE X a fa) (hb : DE X b fb) : DE X (.BinOp a .FloorDiv b pos) (f2 gDiv fa fb) := d_op op_fdivW (o_int fun x y c h => by
  unfold gDiv at h
  split at h
  · rename_i i j
    split at h
    · rename_i z
      cases h
      exact ⟨i, j, rfl, rfl, wide_div (b := 200) z.1 (by have := z.2; omega) (by decide) (by decide), rfl⟩
    · cases h
  · cases h) ha hb
def gMod : PyData → PyData → Option Res
  | .int i, .int j => if 0 < j then some (.fz (.int (i % j))) else none
  | _, _ => none
theorem d_mod (ha : DE X a fa) (hb : DE X b fb) : DE X (.BinOp a .Mod b pos) (f2 gMod fa fb) := d_op op_mod (o_int fun x y c h => by
  unfold gMod at h
  split at h
  · rename_i i j
    split at h
    · rename_i z
      cases h
      exact ⟨i, j, rfl, rfl, z, rfl⟩
    · cases h
  · cases h) ha hb
def gPow : PyData → PyData → Option Res
  | .int i, .int j => if 0 ≤ j ∧ j ≤ 1000000 ∧ i.natAbs < 2 ^ 64 then some (.fz (.int (i ^ j.toNat))) else none
  | _, _ => none
theorem d_pow (ha : DE X a fa) (hb : DE X b fb) : DE X (.BinOp a .Pow b pos) (f2 gPow fa fb) := d_op op_pow (o_int fun x y c h => by
  unfold gPow at h
  split at h
  · rename_i i j
    split at h
    · rename_i z
      cases h
      exact ⟨i, j, rfl, rfl, z, rfl⟩
    · cases h
  · cases h) ha hb
/-- * : ints (one factor below 2 ^ 64), list * int, tuple * int -/
def rMul (K : PySem.W.Frag) : R2 := fun x y H Q => rI CMul (fun i j => .int (i * j)) x y H Q ∨ (rRep x y H Q ∨ rRepT K x y H Q)
theorem op_mulD {X : Cx} : OpR X (binaryOp .Mult) (rMul X.K) := op_mul.or (op_rep.or op_repT)
def gMul : PyData → PyData → Option Res
  | .int i, .int j => if CMul i j then some (.fz (.int (i * j))) else none
  | .tuple xs, .int k => if xs ≠ [] ∧ 2 ≤ k ∧ k ≤ 1000 ∧ xs.length ≤ 1000 then some (.fz (.tuple (List.replicate k.toNat xs).flatten)) else none
  | _, _ => none
theorem dpa_rep {K : PySem.W.Frag} {H : Hp} {vs : List V} {ds : List PyData} (h : DpAll K H vs ds) : ∀ n : Nat, DpAll K H (List.replicate n vs).flatten (List.replicate n ds).flatten
  | 0 => .nil
  | n + 1 => by
    rw [List.replicate_succ, List.replicate_succ, List.flatten_cons, List.flatten_cons]
    exact dpa_app h (dpa_rep h n)
theorem o_mul {K : PySem.W.Frag} : Op2 K (rMul K) gMul := fun B H0 Hf H v u a b c Q e1 e2 q1 q2 hg k => by
  unfold gMul at hg
  split at hg
  · rename_i i j h1 h2
    split at hg
    · rename_i z
      cases hg
      exact .inl ⟨i, j, q1.int h1, q2.int h2, z, k _ Hf H (Gr.refl e1) (Dp.int _)⟩
    · cases hg
  · rename_i xs n h1 h2
    split at hg
    · rename_i z
      cases hg
      obtain ⟨l, vs, rfl, s1, d1⟩ := q1.tup h1
      have hl := dpa_len d1
      refine .inr (.inr ⟨l, n, vs, rfl, q2.int h2, sqt_mono e1 s1, fun w => z.1 ?_, z.2.1, z.2.2.1, by rw [hl]; exact z.2.2.2, fun p hp => ?_⟩)
      · subst w; cases d1; rfl
      · exact k _ _ _ (Gr.new e1 hp) (Dp.tup (SqT.of upd_same) (dpa_mono (same_upd (e1.free hp)) _ _ (dpa_rep d1 _)))
    · cases hg
  · cases hg
theorem d_mul (ha : DE X a fa) (hb : DE X b fb) : DE X (.BinOp a .Mult b pos) (f2 gMul fa fb) := d_op op_mulD o_mul ha hb

/-! ### comparisons -/
def gLt : PyData → PyData → Option Res
  | .int i, .int j => some (.fz (.bool (decide (i < j))))
  | _, _ => none
def gLe : PyData → PyData → Option Res
  | .int i, .int j => some (.fz (.bool (decide (i ≤ j))))
  | _, _ => none
def gGt : PyData → PyData → Option Res
  | .int i, .int j => some (.fz (.bool (decide (j < i))))
  | _, _ => none
def gGe : PyData → PyData → Option Res
  | .int i, .int j => some (.fz (.bool (decide (j ≤ i))))
  | _, _ => none
theorem o_lt {K : PySem.W.Frag} : Op2 K (rI0 fun i j => .bl (decide (i < j))) gLt := o_cmp fun x y c h => by
  unfold gLt at h; split at h
  · cases h; exact ⟨_, _, rfl, rfl, rfl⟩
  · cases h
theorem o_le {K : PySem.W.Frag} : Op2 K (rI0 fun i j => .bl (decide (i ≤ j))) gLe := o_cmp fun x y c h => by
  unfold gLe at h; split at h
  · cases h; exact ⟨_, _, rfl, rfl, rfl⟩
  · cases h
theorem o_gt {K : PySem.W.Frag} : Op2 K (rI0 fun i j => .bl (decide (j < i))) gGt := o_cmp fun x y c h => by
  unfold gGt at h; split at h
  · cases h; exact ⟨_, _, rfl, rfl, rfl⟩
  · cases h
theorem o_ge {K : PySem.W.Frag} : Op2 K (rI0 fun i j => .bl (decide (j ≤ i))) gGe := o_cmp fun x y c h => by
  unfold gGe at h; split at h
  · cases h; exact ⟨_, _, rfl, rfl, rfl⟩
  · cases h
def gEq : PyData → PyData → Option Res := fun a b => if SeqAt.shaped a = true ∧ SeqAt.shaped b = true then some (.fz (.bool (PyData.eqv a b))) else none
def gNe : PyData → PyData → Option Res := fun a b => if SeqAt.shaped a = true ∧ SeqAt.shaped b = true then some (.fz (.bool (!PyData.eqv a b))) else none
theorem o_eq {K : PySem.W.Frag} : Op2 K (rEqD K) gEq := fun B H0 Hf H v u a b c Q e1 e2 q1 q2 hg k => by
  unfold gEq at hg
  split at hg
  · rename_i z
    cases hg
    exact ⟨_, _, q1.dp e1, q2.dp e1, z.1, z.2, k _ Hf H (Gr.refl e1) (Dp.bl _)⟩
  · cases hg
theorem o_ne {K : PySem.W.Frag} : Op2 K (rNeD K) gNe := fun B H0 Hf H v u a b c Q e1 e2 q1 q2 hg k => by
  unfold gNe at hg
  split at hg
  · rename_i z
    cases hg
    exact ⟨_, _, q1.dp e1, q2.dp e1, z.1, z.2, k _ Hf H (Gr.refl e1) (Dp.bl _)⟩
  · cases hg
/-- is, is not: None on the right, or two bools -/
def rIs : R2 := fun x y H Q => (y = .non ∧ Q (.bl (decide (x = .non))) H) ∨ rIsB x y H Q
def rIsNot : R2 := fun x y H Q => (y = .non ∧ Q (.bl (!decide (x = .non))) H) ∨ rNotB x y H Q
theorem op_isD : OpR X (compareOp .Is) rIs := op_isN.or op_isBl
theorem op_isnotD : OpR X (compareOp .IsNot) rIsNot := op_notN.or op_notBl
def isNone : PyData → Bool
  | .none => true
  | _ => false
def gIs : PyData → PyData → Option Res
  | a, .none => some (.fz (.bool (isNone a)))
  | .bool a, .bool b => some (.fz (.bool (decide (a = b))))
  | _, _ => none
def gIsNot : PyData → PyData → Option Res
  | a, .none => some (.fz (.bool (!isNone a)))
  | .bool a, .bool b => some (.fz (.bool (!decide (a = b))))
  | _, _ => none
theorem isNone_of {K : PySem.W.Frag} {H : Hp} {v : V} {d : PyData} (h : Dp K H v d) : decide (v = .non) = isNone d := by
  cases h <;> rfl
theorem o_is {K : PySem.W.Frag} : Op2 K rIs gIs := fun B H0 Hf H v u a b c Q e1 e2 q1 q2 hg k => by
  unfold gIs at hg
  split at hg
  · rename_i h2
    cases hg
    refine .inl ⟨q2.non h2, ?_⟩
    rw [isNone_of (q1.dp e1)]
    exact k _ Hf H (Gr.refl e1) (Dp.bl _)
  · rename_i x y h1 h2
    cases hg
    exact .inr ⟨x, y, q1.bl h1, q2.bl h2, k _ Hf H (Gr.refl e1) (Dp.bl _)⟩
  · cases hg
theorem o_isnot {K : PySem.W.Frag} : Op2 K rIsNot gIsNot := fun B H0 Hf H v u a b c Q e1 e2 q1 q2 hg k => by
  unfold gIsNot at hg
  split at hg
  · rename_i h2
    cases hg
    refine .inl ⟨q2.non h2, ?_⟩
    rw [isNone_of (q1.dp e1)]
    exact k _ Hf H (Gr.refl e1) (Dp.bl _)
  · rename_i x y h1 h2
    cases hg
    exact .inr ⟨x, y, q1.bl h1, q2.bl h2, k _ Hf H (Gr.refl e1) (Dp.bl _)⟩
  · cases hg
/-- in, not in: of a list or tuple of flat items -/
def flatD : PyData → Bool
  | .none => true
  | .bool _ => true
  | .int _ => true
  | .str _ => true
  | _ => false
def inD (x : PyData) (xs : List PyData) : Bool := xs.any fun y => PyData.eqv y x
theorem flat_of {K : PySem.W.Frag} {H : Hp} {v : V} {d : PyData} (h : Dp K H v d) (f : flatD d = true) : flatV v = true := by
  cases h <;> first | rfl | exact absurd (show false = true from f) Bool.false_ne_true
theorem flats_of {K : PySem.W.Frag} {H : Hp} : ∀ {vs : List V} {ds : List PyData}, DpAll K H vs ds → ds.all flatD = true → vs.all flatV = true
  | _, _, .nil, _ => rfl
  | _, _, .cons a t, f => by
    rw [List.all_cons, Bool.and_eq_true] at f ⊢
    exact ⟨flat_of a f.1, flats_of t f.2⟩
theorem eqV_of {K : PySem.W.Frag} {H : Hp} {v u : V} {d e : PyData} (h : Dp K H v d) (h' : Dp K H u e) (f : flatD d = true) (f' : flatD e = true) : eqV v u = PyData.eqv d e := by
  cases h <;> cases h' <;> first
    | rfl
    | exact absurd (show false = true from f) Bool.false_ne_true
    | exact absurd (show false = true from f') Bool.false_ne_true
    | (rename_i a b; cases a <;> rfl)
    | (rename_i a b; cases b <;> rfl)
    | (rename_i a b; cases a <;> cases b <;> rfl)
theorem inV_of {K : PySem.W.Frag} {H : Hp} {v : V} {d : PyData} (h : Dp K H v d) (f : flatD d = true) : ∀ {vs : List V} {ds : List PyData}, DpAll K H vs ds → ds.all flatD = true → inV v vs = inD d ds
  | _, _, .nil, _ => rfl
  | _, _, .cons a t, g => by
    rw [List.all_cons, Bool.and_eq_true] at g
    unfold inV inD
    rw [List.any_cons, List.any_cons, eqV_of a h g.1 f]
    have q := inV_of h f t g.2
    unfold inV inD at q
    rw [q]
def gIn (neg : Bool) : PyData → PyData → Option Res
  | x, .list ys => if flatD x = true ∧ ys.all flatD = true then some (.fz (.bool (if neg then !inD x ys else inD x ys))) else none
  | x, .tuple ys => if flatD x = true ∧ ys.all flatD = true then some (.fz (.bool (if neg then !inD x ys else inD x ys))) else none
  | _, _ => none
theorem o_in {K : PySem.W.Frag} {neg : Bool} : Op2 K (rIn K neg) (gIn neg) := fun B H0 Hf H v u a b c Q e1 e2 q1 q2 hg k => by
  unfold gIn at hg
  have d1 := q1.dp e1
  split at hg
  · rename_i ys h2
    split at hg
    · rename_i z
      cases hg
      obtain ⟨p, vs, rfl, s2, d2⟩ := q2.lst e1 h2
      refine ⟨p, vs, rfl, .inl s2, flat_of d1 z.1, flats_of d2 z.2, ?_⟩
      rw [inV_of d1 z.1 (dpa_mono e1 _ _ d2) z.2]
      exact k _ Hf H (Gr.refl e1) (Dp.bl _)
    · cases hg
  · rename_i ys h2
    split at hg
    · rename_i z
      cases hg
      obtain ⟨p, vs, rfl, s2, d2⟩ := q2.tup h2
      refine ⟨p, vs, rfl, .inr (sqt_mono e1 s2), flat_of d1 z.1, flats_of d2 z.2, ?_⟩
      rw [inV_of d1 z.1 (dpa_mono e1 _ _ d2) z.2]
      exact k _ Hf H (Gr.refl e1) (Dp.bl _)
    · cases hg
  · cases hg

/-! ### one operand -/
def Op1 (K : PySem.W.Frag) (r : V → Hp → VK → Prop) (g : PyData → Option Res) : Prop :=
  ∀ (B H0 Hf H : Hp) (v : V) (a c : Res) (Q : VK), Same Hf H → Same H0 H → RR K B H0 Hf H v a → g a.rd = some c → (∀ w Hf' H', Gr Hf H Hf' H' → RR K B H Hf' H' w c → Q w H') → r v H Q
def f1 (g : PyData → Option Res) (fa : FE) : FE := fun ρ => (fa ρ).bind fun a => g a.rd
theorem ent1 {K : PySem.W.Frag} {r : V → Hp → VK → Prop} {g : PyData → Option Res} (o : Op1 K r g) : ∀ σ H Q, tD K (f1 g fa) σ H Q → tUn r (tD K fa) σ H Q := fun σ H Q h => by
  obtain ⟨B, Hf, ρ, c, er, hf, k⟩ := h
  unfold f1 at hf
  obtain ⟨ra, h1, hf⟩ := Option.bind_eq_some_iff.mp hf
  exact ⟨B, Hf, ρ, ra, er, h1, fun v Hf1 H1 g1 q1 => o B H Hf1 H1 v ra c Q g1.fh g1.h q1 hf fun w Hf3 H3 g3 q3 => k w Hf3 H3 (g1.trans g3) (q3.back g1.h)⟩
def gNeg : PyData → Option Res
  | .int i => some (.fz (.int (-i)))
  | _ => none
theorem o_neg {K : PySem.W.Frag} : Op1 K (rU fun i => .int (-i)) gNeg := fun B H0 Hf H v a c Q e1 e2 q1 hg k => by
  unfold gNeg at hg
  split at hg
  · rename_i i h1
    cases hg
    exact ⟨i, q1.int h1, k _ Hf H (Gr.refl e1) (Dp.int _)⟩
  · cases hg
theorem d_neg (ha : DE X a fa) : DE X (.UnaryOp .USub a pos) (f1 gNeg fa) := pe_mono (pe_un un_neg ha) (ent1 o_neg)

/-! ### truth -/
def tru : PyData → Option Bool
  | .none => some false
  | .bool b => some b
  | .int i => some (i != 0)
  | .str x => if small x.length then some ((x.length : Int) != 0) else none
  | .list xs => some (!xs.isEmpty)
  | .tuple xs => some (!xs.isEmpty)
  | .dict _ => none
theorem emp_of {K : PySem.W.Frag} {H : Hp} {vs : List V} {ds : List PyData} (h : DpAll K H vs ds) : ds.isEmpty = vs.isEmpty := by
  cases h <;> rfl
theorem tru_of {K : PySem.W.Frag} {H : Hp} {v : V} {d : PyData} {b : Bool} (h : Dp K H v d) (t : tru d = some b) : TruV K v H b := by
  cases h with
  | non => cases t; rfl
  | bl x => cases t; rfl
  | int i => cases t; rfl
  | str x =>
    unfold tru at t
    simp only at t
    split at t
    · rename_i z; cases t; exact ⟨sm_line z, rfl⟩
    · cases t
  | lst hs ha =>
    cases t
    exact .inl ⟨_, hs, by rw [emp_of ha]⟩
  | tup hs ha =>
    cases t
    exact .inr (.inl ⟨_, hs, by rw [emp_of ha]⟩)
/-- any expression's truth, as a test -/
def fTru (f : FE) : Rho → Option Bool := fun ρ => (f ρ).bind fun r => tru r.rd
theorem t_tru (ha : DE X a fa) (he : ∀ whole, isTrue a X.env whole = (do let v ← whole; standAt a.pos; holding [v] (truthy v)) := by intro _; rfl) : DT X a (fTru fa) := pt_mono (pt_truth ha he) fun σ H Q h => by
  obtain ⟨B, Hf, ρ, c, er, hf, k⟩ := h
  obtain ⟨r, h1, h2⟩ := Option.bind_eq_some_iff.mp hf
  exact ⟨B, Hf, ρ, r, er, h1, fun v Hf' H' g' q => ⟨c, tru_of (q.dp g'.fh) h2, k Hf' H' g'⟩⟩
def tNotF (f : Rho → Option Bool) : Rho → Option Bool := fun ρ => (f ρ).map (!·)
theorem t_not {t : Rho → Option Bool} (ha : DT X a t) : DT X (.UnaryOp .Not a pos) (tNotF t) := pt_mono (pt_not ha) fun σ H Q h => by
  obtain ⟨B, Hf, ρ, c, er, hf, k⟩ := h
  unfold tNotF at hf
  obtain ⟨b, h1, h2⟩ := Option.map_eq_some_iff.mp hf
  subst h2
  exact ⟨B, Hf, ρ, b, er, h1, k⟩
abbrev DW (X : Cx) (e : Expr) (f : Rho → Option Bool) : Prop := PW X e (tDT X.K f)
theorem pw_mono {X : Cx} {e : Expr} {t t' : TT} (h : PW X e t) (k : ∀ σ H Q, t' σ H Q → t σ H Q) : PW X e t' := ⟨fun whole pins s σ H Q I q => h.run whole pins s σ H Q I (k _ _ _ q)⟩
def tAndF (f g : Rho → Option Bool) : Rho → Option Bool := fun ρ => (f ρ).bind fun a => if a = true then g ρ else some false
def tOrF (f g : Rho → Option Bool) : Rho → Option Bool := fun ρ => (f ρ).bind fun a => if a = true then some true else g ρ
variable {t u : Rho → Option Bool} {rest : List Expr}
theorem w_and1 (ha : DT X a t) : DW X (.BoolOp .And [a] pos) t := pw_and1 ha
theorem w_or1 (ha : DT X a t) : DW X (.BoolOp .Or [a] pos) t := pw_or1 ha
theorem w_and (ha : DT X a t) (hb : DW X (.BoolOp .And (b :: rest) pos) u) : DW X (.BoolOp .And (a :: b :: rest) pos) (tAndF t u) := pw_mono (pw_and ha hb) fun σ H Q h => by
  obtain ⟨B, Hf, ρ, c, er, hf, k⟩ := h
  unfold tAndF at hf
  obtain ⟨x, h1, h2⟩ := Option.bind_eq_some_iff.mp hf
  refine ⟨B, Hf, ρ, x, er, h1, fun Hf' H' g' => ?_⟩
  cases x with
  | true => exact ⟨B, Hf', ρ, c, er.grow g', h2, fun Hf2 H2 g2 => k _ _ (g'.trans g2)⟩
  | false => cases h2; exact k _ _ g'
theorem w_or (ha : DT X a t) (hb : DW X (.BoolOp .Or (b :: rest) pos) u) : DW X (.BoolOp .Or (a :: b :: rest) pos) (tOrF t u) := pw_mono (pw_or ha hb) fun σ H Q h => by
  obtain ⟨B, Hf, ρ, c, er, hf, k⟩ := h
  unfold tOrF at hf
  obtain ⟨x, h1, h2⟩ := Option.bind_eq_some_iff.mp hf
  refine ⟨B, Hf, ρ, x, er, h1, fun Hf' H' g' => ?_⟩
  cases x with
  | true => cases h2; exact k _ _ g'
  | false => exact ⟨B, Hf', ρ, c, er.grow g', h2, fun Hf2 H2 g2 => k _ _ (g'.trans g2)⟩
theorem t_bool (h : DW X a t) : DT X a t := h.pt
/-- and, or, not as values -/
def fAnd (fa fb : FE) : FE := fun ρ => (fa ρ).bind fun a => (tru a.rd).bind fun k => if k = true then fb ρ else some a
def fOr (fa fb : FE) : FE := fun ρ => (fa ρ).bind fun a => (tru a.rd).bind fun k => if k = true then some a else fb ρ
theorem d_one {op} (h : DE X a fa) : DE X (.BoolOp op [a] pos) fa := pe_one h
theorem d_and (ha : DE X a fa) (hb : DE X (.BoolOp .And (b :: rest) pos) fb) : DE X (.BoolOp .And (a :: b :: rest) pos) (fAnd fa fb) := pe_mono (pe_andT ha hb) fun σ H Q h => by
  obtain ⟨B, Hf, ρ, c, er, hf, k⟩ := h
  unfold fAnd at hf
  obtain ⟨x, h1, h2⟩ := Option.bind_eq_some_iff.mp hf
  obtain ⟨y, h3, h4⟩ := Option.bind_eq_some_iff.mp h2
  refine ⟨B, Hf, ρ, x, er, h1, fun v Hf' H' g' q => ⟨y, tru_of (q.dp g'.fh) h3, ?_⟩⟩
  cases y with
  | true => exact ⟨B, Hf', ρ, c, er.grow g', h4, fun w Hf2 H2 g2 q2 => k _ _ _ (g'.trans g2) (q2.back g'.h)⟩
  | false => cases h4; exact k _ _ _ g' q
theorem d_or (ha : DE X a fa) (hb : DE X (.BoolOp .Or (b :: rest) pos) fb) : DE X (.BoolOp .Or (a :: b :: rest) pos) (fOr fa fb) := pe_mono (pe_orT ha hb) fun σ H Q h => by
  obtain ⟨B, Hf, ρ, c, er, hf, k⟩ := h
  unfold fOr at hf
  obtain ⟨x, h1, h2⟩ := Option.bind_eq_some_iff.mp hf
  obtain ⟨y, h3, h4⟩ := Option.bind_eq_some_iff.mp h2
  refine ⟨B, Hf, ρ, x, er, h1, fun v Hf' H' g' q => ⟨y, tru_of (q.dp g'.fh) h3, ?_⟩⟩
  cases y with
  | true => cases h4; exact k _ _ _ g' q
  | false => exact ⟨B, Hf', ρ, c, er.grow g', h4, fun w Hf2 H2 g2 q2 => k _ _ _ (g'.trans g2) (q2.back g'.h)⟩
def fNot (fa : FE) : FE := fun ρ => (fa ρ).bind fun a => (tru a.rd).map fun k => .fz (.bool (!k))
theorem d_not (ha : DE X a fa) : DE X (.UnaryOp .Not a pos) (fNot fa) := pe_mono (pe_notT ha) fun σ H Q h => by
  obtain ⟨B, Hf, ρ, c, er, hf, k⟩ := h
  unfold fNot at hf
  obtain ⟨x, h1, h2⟩ := Option.bind_eq_some_iff.mp hf
  obtain ⟨y, h3, h4⟩ := Option.map_eq_some_iff.mp h2
  subst h4
  exact ⟨B, Hf, ρ, x, er, h1, fun v Hf' H' g' q => ⟨y, tru_of (q.dp g'.fh) h3, k _ _ _ g' (Dp.bl _)⟩⟩
def fIf (t : Rho → Option Bool) (fa fb : FE) : FE := fun ρ => (t ρ).bind fun k => if k = true then fa ρ else fb ρ
theorem d_if (hc : DT X c t) (ha : DE X a fa) (hb : DE X b fb) : DE X (.IfExp c a b pos) (fIf t fa fb) := pe_mono (pe_ifExp hc ha hb) fun σ H Q h => by
  obtain ⟨B, Hf, ρ, r, er, hf, k⟩ := h
  unfold fIf at hf
  obtain ⟨y, h3, h4⟩ := Option.bind_eq_some_iff.mp hf
  refine ⟨B, Hf, ρ, y, er, h3, fun Hf' H' g' => ?_⟩
  cases y with
  | true => exact ⟨B, Hf', ρ, r, er.grow g', h4, fun w Hf2 H2 g2 q2 => k _ _ _ (g'.trans g2) (q2.back g'.h)⟩
  | false => exact ⟨B, Hf', ρ, r, er.grow g', h4, fun w Hf2 H2 g2 q2 => k _ _ _ (g'.trans g2) (q2.back g'.h)⟩

/-! ### argument lists, displays -/
def aNil : FA := fun _ => some []
def aCons (f : FE) (g : FA) : FA := fun ρ => (f ρ).bind fun r => (g ρ).map fun rs => r :: rs
theorem RRs.grow {K : PySem.W.Frag} {B H0 Hf H Hf' H' : Hp} (g : Gr Hf H Hf' H') : ∀ {vs : List V} {rs : List Res}, RRs K B H0 Hf H vs rs → RRs K B H0 Hf' H' vs rs
  | _, _, .nil => .nil
  | _, _, .cons a t => .cons (a.grow g) (RRs.grow g t)
theorem RRs.back {K : PySem.W.Frag} {B H0 H1 Hf H : Hp} (s : Same H0 H1) : ∀ {vs : List V} {rs : List Res}, RRs K B H1 Hf H vs rs → RRs K B H0 Hf H vs rs
  | _, _, .nil => .nil
  | _, _, .cons a t => .cons (a.back s) (RRs.back s t)
theorem a_nil : DA X [] aNil := pa_mono pa_nil fun σ H Q h => by
  obtain ⟨B, Hf, ρ, r, er, hf, k⟩ := h
  cases hf
  exact k _ _ _ (Gr.refl er.fh) .nil
variable {fs : FA}
theorem a_cons (ha : DE X e fa) (hr : DA X es fs) (hs : starEach (e :: es) X.env = (false, eval e X.env) :: starEach es X.env := by rfl) : DA X (e :: es) (aCons fa fs) := pa_mono (pa_cons ha hr hs) fun σ H Q h => by
  obtain ⟨B, Hf, ρ, r, er, hf, k⟩ := h
  unfold aCons at hf
  obtain ⟨x, h1, h2⟩ := Option.bind_eq_some_iff.mp hf
  obtain ⟨y, h3, h4⟩ := Option.map_eq_some_iff.mp h2
  subst h4
  exact ⟨B, Hf, ρ, x, er, h1, fun v Hf' H' g' q => ⟨B, Hf', ρ, y, er.grow g', h3, fun vs Hf2 H2 g2 q2 => k _ _ _ (g'.trans g2) (.cons (q.grow g2) (q2.back g'.h))⟩⟩
/-- all made to stand still -/
def frs : List Res → Option (List PyData)
  | [] => some []
  | r :: rs => r.fr.bind fun x => (frs rs).map fun xs => x :: xs
theorem RRs.freeze {K : PySem.W.Frag} {B Hf H : Hp} {σ : L2.St} {ρ : Rho} (er : ER K B Hf H σ ρ) : ∀ {rs : List Res} {vs : List V} {xs : List PyData} {Hf' H' : Hp}, Gr Hf H Hf' H' → RRs K B H Hf' H' vs rs → frs rs = some xs → ∃ Hf2, Gr Hf H Hf2 H' ∧ Same Hf' Hf2 ∧ DpAll K Hf2 vs xs
  | [], _, _, Hf', H', g, .nil, h => by cases h; exact ⟨Hf', g, Same.refl _, .nil⟩
  | r :: rs, v :: vs, xs, Hf', H', g, .cons a t, h => by
    unfold frs at h
    obtain ⟨x, h1, h2⟩ := Option.bind_eq_some_iff.mp h
    obtain ⟨ys, h3, h4⟩ := Option.map_eq_some_iff.mp h2
    subst h4
    obtain ⟨Hf2, g2, s2, d2⟩ := RRs.freeze er g t h3
    cases r with
    | fz y => cases h1; exact ⟨Hf2, g2, s2, .cons (dp_mono s2 _ _ a) d2⟩
    | br y => cases h1
    | nw ys =>
      obtain ⟨p, ws, rfl, h0, n3, h5, h6⟩ := a
      cases h1
      by_cases z : Hf2 p = none
      · refine ⟨upd Hf2 p (.lst ws), ⟨g2.f.trans (same_upd z), g2.h, fun b o e => ?_, fun b o e n => ?_⟩, s2.trans (same_upd z), .cons (.lst (SqL.of upd_same) (dpa_mono (s2.trans (same_upd z)) _ _ h6)) (dpa_mono (same_upd z) _ _ d2)⟩
        · by_cases w : b = p
          · subst w; rw [upd_same] at e; cases e; exact h5
          · rw [upd_ne w] at e; exact g2.fh _ _ e
        · rw [upd_ne (ne_of_none e h0)]; exact g2.un b o e n
      · cases w : Hf2 p with
        | none => exact absurd w z
        | some o =>
          have e := g2.fh p o w
          rw [h5] at e
          cases e
          exact ⟨Hf2, g2, s2, .cons (.lst (SqL.of w) (dpa_mono s2 _ _ h6)) d2⟩
def fTup (fs : FA) : FE := fun ρ => (fs ρ).bind fun rs => (frs rs).bind fun xs => if small xs.length then some (.fz (.tuple xs)) else none
def fLst (fs : FA) : FE := fun ρ => (fs ρ).bind fun rs => (frs rs).bind fun xs => if small xs.length then some (.nw xs) else none
theorem d_tup {k} (h : DA X es fs) : DE X (.Tuple es k pos) (fTup fs) := pe_mono (pe_tup h) fun σ H Q h => by
  obtain ⟨B, Hf, ρ, r, er, hf, k⟩ := h
  unfold fTup at hf
  obtain ⟨rs, h1, h2⟩ := Option.bind_eq_some_iff.mp hf
  obtain ⟨xs, h3, h4⟩ := Option.bind_eq_some_iff.mp h2
  split at h4
  · rename_i hz
    cases h4
    refine ⟨B, Hf, ρ, rs, er, h1, fun vs Hf' H' g' q => ?_⟩
    obtain ⟨Hf2, g2, s2, d2⟩ := RRs.freeze er g' q h3
    refine ⟨by rw [dpa_len d2]; exact sm_line hz, fun p hp => ?_⟩
    have gn : Gr Hf2 H' (upd Hf2 p (.tup vs)) (upd H' p (.tup vs)) := Gr.new g2.fh hp
    exact k _ _ _ (g2.trans gn) (Dp.tup (SqT.of upd_same) (dpa_mono gn.f _ _ d2))
  · cases h4
theorem d_lst (h : DA X es fs) : DE X (.List es pos) (fLst fs) := pe_mono (pe_lst h) fun σ H Q h => by
  obtain ⟨B, Hf, ρ, r, er, hf, k⟩ := h
  unfold fLst at hf
  obtain ⟨rs, h1, h2⟩ := Option.bind_eq_some_iff.mp hf
  obtain ⟨xs, h3, h4⟩ := Option.bind_eq_some_iff.mp h2
  split at h4
  · rename_i hz
    cases h4
    refine ⟨B, Hf, ρ, rs, er, h1, fun vs Hf' H' g' q => ?_⟩
    obtain ⟨Hf2, g2, s2, d2⟩ := RRs.freeze er g' q h3
    refine ⟨by rw [dpa_len d2]; exact sm_line hz, fun p hp => ?_⟩
    have gn : Gr Hf2 H' Hf2 (upd H' p (.lst vs)) := Gr.newU g2.fh hp
    exact k _ _ _ (g2.trans gn) ⟨p, vs, rfl, g2.h.free hp, g2.fh.free hp, upd_same, d2⟩
  · cases h4
end
end DL
/-! t[::-1] -/
namespace DL
open PySem PySem.Spec PyProof.Rows L2 HT
section
variable {prog : Program} {w : World} {A : Around} {E : Value → Shared → Prop} {s : Shared}
theorem sliceApplied_rev {sl : Addr} {vl vu vs : Value} {n : Nat} {Q : Int × Int × Nat → Shared → Prop} (hs : s.heap.IsSliceOf sl vl vu vs) (pl : IsPart vl none) (pu : IsPart vu none) (ps : IsPart vs (some (-1)))
    (h : Q ((n : Int) - 1, -1, n) s) : wpAny (model prog w) A (Builtin.Slice.sliceApplied (.ref sl) (pure (n : Int))) Q E s := by
  obtain ⟨os, hos, hcs, hds⟩ := id hs
  unfold Builtin.Slice.sliceApplied Builtin.Slice.sliceFields
  refine wpAny_bind (wpAny_bind (wpAny_field hos hds (x := vl) rfl (wpAny_bind (wpAny_field hos hds (x := vu) rfl (wpAny_bind (wpAny_field hos hds (x := vs) rfl (wpAny_pure ?_)))))))
  refine wpAny_bind (slicePart_ ps ?_)
  show wpAny _ _ (if ((-1 : Int) == 0) = true then _ else _) _ _ s
  rw [if_neg (by decide)]
  refine wpAny_bind (slicePart_ pl (wpAny_bind (slicePart_ pu (wpAny_bind (wpAny_pure ?_)))))
  show wpAny _ _ (match Builtin.Slice.sliceAdjust none none (-1) (n : Int) with | (lo, hi) => pure (lo, (-1 : Int), Builtin.Slice.slicePlaces lo hi (-1))) _ _ s
  have e : Builtin.Slice.sliceAdjust none none (-1) (n : Int) = ((n : Int) - 1, -1) := by
    unfold Builtin.Slice.sliceAdjust
    simp
  rw [e]
  have e2 : Builtin.Slice.slicePlaces ((n : Int) - 1) (-1) (-1) = n := by
    unfold Builtin.Slice.slicePlaces
    have h1 : ¬ ((-1 : Int) > 0) := by omega
    simp only [h1, if_false, Int.neg_neg, Int.ediv_one]
    split <;> omega
  show wpAny _ _ (pure ((n : Int) - 1, (-1 : Int), Builtin.Slice.slicePlaces ((n : Int) - 1) (-1) (-1))) _ _ s
  rw [e2]
  exact wpAny_pure h
theorem fmap_congr {α β : Type} {f g : α → Option β} : ∀ {l : List α}, (∀ m ∈ l, f m = g m) → l.filterMap f = l.filterMap g
  | [], _ => rfl
  | a :: t, h => by
    rw [List.filterMap_cons, List.filterMap_cons, h a List.mem_cons_self, fmap_congr fun m hm => h m (List.mem_cons_of_mem _ hm)]
theorem pick_rev (xs : Array Value) : ((List.range xs.size).filterMap fun (m : Nat) => xs[(((xs.size : Nat) : Int) - 1 + (m : Int) * (-1)).toNat]?).toArray = xs.toList.reverse.toArray := by
  congr 1
  have key : ∀ m ∈ List.range xs.size, xs[(((xs.size : Nat) : Int) - 1 + (m : Int) * (-1)).toNat]? = (fun m => xs.toList.reverse[m]?) m := fun m hm => by
    have hm' : m < xs.size := List.mem_range.mp hm
    have e : (((xs.size : Nat) : Int) - 1 + (m : Int) * (-1)).toNat = xs.size - 1 - m := by omega
    rw [e]
    show _ = xs.toList.reverse[m]?
    rw [List.getElem?_reverse (by simpa using hm'), Array.length_toList, Array.getElem?_toList]
  rw [fmap_congr key]
  have := pick_run xs.toList.reverse.toArray 0 xs.size
  simp only [Nat.zero_add] at this
  have e3 : List.filterMap (fun m => xs.toList.reverse[m]?) (List.range xs.size) = xs.toList.reverse := by
    have hl : xs.size = xs.toList.reverse.length := by simp
    rw [hl]
    generalize xs.toList.reverse = l
    induction l with
    | nil => rfl
    | cons a t ih =>
      rw [List.length_cons, List.range_succ_eq_map, List.filterMap_cons]
      simp only [List.getElem?_cons_zero, List.filterMap_map]
      congr 1
  exact e3
theorem getItem_tuple_rev {t sl : Addr} {items : Array Value} {vl vu vs : Value} {Q : Value → Shared → Prop} (ht : IsTup s.heap t items) (hs : s.heap.IsSliceOf sl vl vu vs) (pl : IsPart vl none) (pu : IsPart vu none) (ps : IsPart vs (some (-1)))
    (h : Q (.ref s.heap.objs.size) { s with heap := s.heap.push { cls := .type "tuple", data := .seq items.toList.reverse.toArray } })
    (hsz : items.size ≤ sizeLine) : wpAny (model prog w) A (getItem (.ref t) (.ref sl)) Q E s := by
  have htake : sizeOk (.seq items.toList.reverse.toArray) := by
    show items.toList.reverse.toArray.size ≤ sizeLine
    simpa using hsz
  obtain ⟨os, hos, hcs, hds⟩ := id hs
  have hTs : s.TypeIs (.ref sl) "slice" := ⟨os, hos, hcs⟩
  unfold getItem
  try with_reducible refine wpAny_holding ?_
  first | refine wpAny_bind (wpAny_pure ?_) | skip
  refine wpAny_bind (wpAny_sequenceKey ht.typeIs (by decide) ?_)
  refine wpAny_bind (wpAny_callSpecial?_slot (name := Str.ofString "__getitem__") ht.typeIs PyProof.Rows.slot_tuple_getitem
    (wpAny_call_entry PyProof.Rows.slot_tuple_getitem ht.typeIs entry_tuple_getitem ?_ (args_tuple_getitem _ _)))
  show wpAny _ _ (Builtin.Tuple.tupleItemsOf (.ref t) >>= _) _ _ s
  refine wpAny_bind (tupleItemsOf_ ht ?_)
  refine wpAny_bind (wpAny_typeOf hTs ?_)
  rw [if_pos (by decide)]
  refine wpAny_bind (sliceApplied_rev hs pl pu ps ?_)
  have hno : ¬ ((((items.size : Nat) : Int) - 1 == 0 && (-1 : Int) == 1 && items.size == items.size) = true) := by
    intro q
    rw [Bool.and_eq_true, Bool.and_eq_true] at q
    exact absurd q.1.2 (by decide)
  show wpAny _ _ (if (((items.size : Nat) : Int) - 1 == 0 && (-1 : Int) == 1 && items.size == items.size) = true then _ else _) _ _ s
  rw [if_neg hno, pick_rev]
  first
    | exact wpAny_bind (m := Builtin.Tuple.tupleExact _) (wpAny_newObj_type (wpAny_pure ⟨_, rfl, wpAny_pure h⟩) htake)
    | exact wpAny_bind (m := Builtin.Tuple.tupleExact _) (wpAny_newObj_type (wpAny_bind (wpAny_pure (wpAny_pure ⟨_, rfl, wpAny_pure h⟩))) htake)
    | exact wpAny_bind (wpAny_bind (m := Builtin.Tuple.tupleExact _) (wpAny_newObj_type (wpAny_pure (wpAny_pure ⟨_, rfl, wpAny_pure h⟩)) htake))
    | exact wpAny_bind (wpAny_bind (m := Builtin.Tuple.tupleExact _) (wpAny_newObj_type (wpAny_pure ⟨_, rfl, wpAny_pure h⟩) htake))
end
/-- xs[::-1]: of a list or a tuple -/
def tRevA (K : PySem.W.Frag) (te : TE) : TE := fun σ H Q => te σ H fun x H1 => ∃ a xs, x = .ref a ∧ ((SqL K H1 a xs ∧ ∀ p, H1 p = none → Q (.ref p) (upd H1 p (.lst xs.reverse))) ∨ (SqT K H1 a xs ∧ ∀ p, H1 p = none → Q (.ref p) (upd H1 p (.tup xs.reverse))))
theorem pe_revA {X : Cx} {e : Expr} {te : TE} {k : Nat} {p1 p2 p3 pos : Pos} (he : PE X e te) : PE X (.Subscript e (.Slice none none (some (.UnaryOp .USub (.Constant (.int 1) k p1) p2)) p3) pos) (tRevA X.K te) := by
  refine ⟨fun pins s σ H Q I h => ?_⟩
  refine Subscript_ (thn (he.run pins s σ H _ I h) fun v s1 ⟨x, H1, I1, r1, q1⟩ => ?_)
  obtain ⟨a, xs, ex, hx⟩ := q1
  subst ex
  cases r1
  have hst : PO X (some (.UnaryOp .USub (.Constant (.int 1) k p1) p2)) (tPart (tUn (rU fun i => .int (-i)) (tC (.int 1)))) := po_some (pe_un un_neg pe_int)
  refine wpAny_Slice (thn (po_none.run pins s1 σ H1 (fun o H2 => o = none ∧ H2 = H1) I1 ⟨rfl, rfl⟩) fun vl s2 ⟨l, H2, I2, pl, el, e2⟩ => ?_)
  subst el e2
  refine thn (po_none.run pins s2 σ H2 (fun o H3 => o = none ∧ H3 = H2) I2 ⟨rfl, rfl⟩) fun vu s3 ⟨u, H3, I3, pu, eu, e3⟩ => ?_
  subst eu e3
  refine thn (hst.run pins s3 σ H3 (fun o H4 => o = some (-1) ∧ H4 = H3) I3 ⟨1, rfl, -1, rfl, rfl, rfl⟩) fun vs s4 ⟨o, H4, I4, ps, eo, e4⟩ => ?_
  subst eo e4
  have I5 : Inv X pins σ H4 { s4 with heap := s4.heap.push { cls := .type "slice", data := .fields #[vl, vu, vs] } } := I4.kept (t' := s4.toks) fun b ob q => Heap.get?_push_of_some _ q
  show wpAny (model X.prog X.w) X.A (subscriptTail e (.Slice none none (some (.UnaryOp .USub (.Constant (.int 1) k p1) p2)) p3) (.ref a) (.ref s4.heap.objs.size)) (EP X pins σ Q) X.xe { s4 with heap := s4.heap.push { cls := .type "slice", data := .fields #[vl, vu, vs] } }
  rcases hx with ⟨hx, q⟩ | ⟨hx, q⟩
  · obtain ⟨its, r, ht, hz⟩ := I5.list hx
    have hlen := r.length
    refine tail_any (ops := [.ref a, .ref s4.heap.objs.size]) ht.isList.typeIs (PySem.slot_list_getitem.lookup) ?_ (by with_unfolding_all rfl)
    refine wpAny_getItem_list_slice ht.isList (Heap.IsSliceOf.new _ vl vu vs) pl pu ps (by decide) ?_ (by rw [List.size_toArray]; omega)
    rw [PySem.W.krv_pick]
    refine ⟨.ref _, _, I5.laid (t' := s4.toks) (o := .lst xs.reverse) (fun b ob q => Heap.get?_push_of_some _ q) (Nat.le_refl _) ?_, rfl, q _ (I5.hok.fresh (Nat.le_refl _))⟩
    exact ⟨by rw [List.length_reverse]; exact hz, _, 0, r.reverse, Heap.get?_push_size _ rfl⟩
  · obtain ⟨its, r, ht, hz⟩ := I5.tuple hx
    have hlen := r.length
    refine tail_any (ops := [.ref a, .ref s4.heap.objs.size]) ht.typeIs PyProof.Rows.slot_tuple_getitem.lookup ?_ (by with_unfolding_all rfl)
    refine getItem_tuple_rev ht (Heap.IsSliceOf.new _ vl vu vs) pl pu ps ?_ (by rw [List.size_toArray]; omega)
    refine ⟨.ref _, _, I5.laid (t' := s4.toks) (o := .tup xs.reverse) (fun b ob q => Heap.get?_push_of_some _ q) (Nat.le_refl _) ?_, rfl, q _ (I5.hok.fresh (Nat.le_refl _))⟩
    exact ⟨by rw [List.length_reverse]; exact hz, _, r.reverse, IsTup.new _ _⟩
end DL
namespace DL
open PySem PySem.Spec PyProof.Rows L2
section
variable {X : Cx} {a b c e : Expr} {es : List Expr} {fa fb fc : FE} {fs : FA} {pos : Pos}

/-! ### subscripts -/
def gIx : PyData → PyData → Option Res
  | .list xs, .int i => (atI xs i).map .fz
  | .tuple xs, .int i => (atI xs i).map .fz
  | .str z, .int i => if small z.length then (atI z.cps.toList i).map fun c => .fz (.str ⟨#[c]⟩) else none
  | _, _ => none
theorem dpa_atI {K : PySem.W.Frag} {H : Hp} {vs : List V} {ds : List PyData} {i : Int} {d : PyData} (h : DpAll K H vs ds) (e : atI ds i = some d) : ∃ v, atI vs i = some v ∧ Dp K H v d := by
  unfold atI at e ⊢
  rw [dpa_len h]
  obtain ⟨j, h1, h2⟩ := Option.bind_eq_some_iff.mp e
  rw [h1]
  exact dpa_get h h2
theorem o_ix {K : PySem.W.Frag} : Op2 K (rIx K) gIx := fun B H0 Hf H v u a b c Q e1 e2 q1 q2 hg k => by
  unfold gIx at hg
  split at hg
  · rename_i xs i h1 h2
    obtain ⟨d, h3, h4⟩ := Option.map_eq_some_iff.mp hg
    subst h4
    obtain ⟨p, vs, rfl, s1, d1⟩ := q1.lst e1 h1
    obtain ⟨w, h5, h6⟩ := dpa_atI d1 h3
    exact .inl ⟨p, vs, i, w, rfl, q2.int h2, s1, h5, k _ Hf H (Gr.refl e1) h6⟩
  · rename_i xs i h1 h2
    obtain ⟨d, h3, h4⟩ := Option.map_eq_some_iff.mp hg
    subst h4
    obtain ⟨p, vs, rfl, s1, d1⟩ := q1.tup h1
    obtain ⟨w, h5, h6⟩ := dpa_atI d1 h3
    exact .inr (.inl ⟨p, vs, i, w, rfl, q2.int h2, sqt_mono e1 s1, h5, k _ Hf H (Gr.refl e1) h6⟩)
  · rename_i z i h1 h2
    split at hg
    · rename_i hz
      obtain ⟨d, h3, h4⟩ := Option.map_eq_some_iff.mp hg
      subst h4
      exact .inr (.inr ⟨z, i, d, q1.str h1, q2.int h2, sm_line hz, h3, k _ Hf H (Gr.refl e1) (Dp.str _)⟩)
    · cases hg
  · cases hg
theorem d_ix (ha : DE X a fa) (hb : DE X b fb) (hs : PlainIx b := by intro _ _; rfl) : DE X (.Subscript a b pos) (f2 gIx fa fb) := pe_mono (pe_ix ix_seq ha hb hs) (ent2 o_ix)

/-! ### slices -/
def tDO (K : PySem.W.Frag) (f : Rho → Option (Option Int)) : TO := fun σ H Q => ∃ B Hf ρ o, ER K B Hf H σ ρ ∧ f ρ = some o ∧ ∀ Hf' H', Gr Hf H Hf' H' → Q o H'
abbrev DO (X : Cx) (e : Option Expr) (f : Rho → Option (Option Int)) : Prop := PO X e (tDO X.K f)
theorem po_mono {X : Cx} {e : Option Expr} {t t' : TO} (h : PO X e t) (k : ∀ σ H Q, t' σ H Q → t σ H Q) : PO X e t' := ⟨fun pins s σ H Q I q => h.run pins s σ H Q I (k _ _ _ q)⟩
def oNone : Rho → Option (Option Int) := fun _ => some none
def oSome (f : FE) : Rho → Option (Option Int) := fun ρ => (f ρ).bind fun r => match r.rd with
  | .int i => some (some i)
  | _ => none
theorem p_none : DO X none oNone := po_mono po_none fun σ H Q h => by
  obtain ⟨B, Hf, ρ, o, er, hf, k⟩ := h
  cases hf
  exact k _ _ (Gr.refl er.fh)
theorem p_some (ha : DE X e fa) : DO X (some e) (oSome fa) := po_mono (po_some ha) fun σ H Q h => by
  obtain ⟨B, Hf, ρ, o, er, hf, k⟩ := h
  unfold oSome at hf
  obtain ⟨r, h1, h2⟩ := Option.bind_eq_some_iff.mp hf
  split at h2
  · rename_i i hi
    cases h2
    exact ⟨B, Hf, ρ, r, er, h1, fun v Hf' H' g' q => ⟨i, q.int hi, k _ _ g'⟩⟩
  · cases h2
def cutD {α : Type} (xs : List α) (lo hi : Option Int) : List α := (xs.drop (HT.sIx xs.length 0 lo)).take (HT.sIx xs.length xs.length hi - HT.sIx xs.length 0 lo)
theorem dpa_cut {K : PySem.W.Frag} {H : Hp} {vs : List V} {ds : List PyData} (h : DpAll K H vs ds) (lo hi : Option Int) : DpAll K H (cutV vs lo hi) (cutD ds lo hi) := by
  unfold cutV cutD
  rw [dpa_len h]
  exact dpa_take _ (dpa_drop _ h)
def rSlX (K : PySem.W.Frag) : V → Option Int → Option Int → Hp → VK → Prop := fun x lo hi H Q => rSlL K x lo hi H Q ∨ (rSlA K x lo hi H Q ∨ rSlS x lo hi H Q)
theorem sl_any : SlR X (rSlX X.K) := sl_list.or (sl_tupA.or sl_str)
def gSl (d : PyData) (lo hi : Option Int) : Option Res := match d with
  | .list xs => some (.nw (cutD xs lo hi))
  | .tuple xs => some (.fz (.tuple (cutD xs lo hi)))
  | .str z => if small z.length then some (.fz (.str (cutS z lo hi))) else none
  | _ => none
def fSl (fa : FE) (o1 o2 : Rho → Option (Option Int)) : FE := fun ρ => (fa ρ).bind fun a => (o1 ρ).bind fun lo => (o2 ρ).bind fun hi => gSl a.rd lo hi
variable {o1 o2 : Rho → Option (Option Int)} {lo hi : Option Expr} {p2 : Pos}
theorem cut_whole {α : Type} (xs : List α) (l h : Option Int) (w : HT.sIx xs.length 0 l = 0 ∧ HT.sIx xs.length xs.length h = xs.length) : cutD xs l h = xs := by
  unfold cutD
  rw [w.1, w.2, List.drop_zero, Nat.sub_zero, List.take_length]
theorem d_sl (ha : DE X e fa) (hl : DO X lo o1) (hu : DO X hi o2) : DE X (.Subscript e (.Slice lo hi none p2) pos) (fSl fa o1 o2) := pe_mono (pe_slice sl_any ha hl hu) fun σ H Q h => by
  obtain ⟨B, Hf, ρ, r, er, hf, k⟩ := h
  unfold fSl at hf
  obtain ⟨ra, h1, hf⟩ := Option.bind_eq_some_iff.mp hf
  obtain ⟨l, h2, hf⟩ := Option.bind_eq_some_iff.mp hf
  obtain ⟨u, h3, hf⟩ := Option.bind_eq_some_iff.mp hf
  refine ⟨B, Hf, ρ, ra, er, h1, fun v Hf1 H1 g1 q1 => ⟨B, Hf1, ρ, l, er.grow g1, h2, fun Hf2 H2 g2 => ⟨B, Hf2, ρ, u, (er.grow g1).grow g2, h3, fun Hf3 H3 g3 => ?_⟩⟩⟩
  have g := (g1.trans g2).trans g3
  have q3 := q1.grow (g2.trans g3)
  have e1 := g.fh
  unfold gSl at hf
  split at hf
  · rename_i xs hx
    cases hf
    obtain ⟨p, vs, rfl, s1, d1⟩ := q3.lst e1 hx
    refine .inl ⟨p, vs, rfl, s1, fun n hn => ?_⟩
    exact k _ _ _ (g.trans (Gr.newU e1 hn)) ⟨n, _, rfl, g.h.free hn, e1.free hn, upd_same, dpa_cut d1 _ _⟩
  · rename_i xs hx
    cases hf
    obtain ⟨p, vs, rfl, s1, d1⟩ := q3.tup hx
    refine .inr (.inl ⟨p, vs, rfl, sqt_mono e1 s1, fun w => ?_, fun w n hn => ?_⟩)
    · rw [dpa_len d1] at w
      rw [cut_whole xs l u w] at k
      exact k _ _ _ g (Dp.tup s1 d1)
    · have gn := Gr.new (o := .tup (cutV vs l u)) e1 hn
      exact k _ _ _ (g.trans gn) (Dp.tup (SqT.of upd_same) (dpa_mono gn.f _ _ (dpa_cut d1 _ _)))
  · rename_i z hx
    split at hf
    · rename_i hz
      cases hf
      exact .inr (.inr ⟨z, q3.str hx, sm_line hz, k _ _ _ g (Dp.str _)⟩)
    · cases hf
  · cases hf
theorem dpa_rev {K : PySem.W.Frag} {H : Hp} : ∀ {vs : List V} {ds : List PyData}, DpAll K H vs ds → DpAll K H vs.reverse ds.reverse
  | _, _, .nil => .nil
  | _, _, .cons a t => by
    rw [List.reverse_cons, List.reverse_cons]
    exact dpa_app (dpa_rev t) (.cons a .nil)
def gRev : PyData → Option Res
  | .list xs => some (.nw xs.reverse)
  | .tuple xs => some (.fz (.tuple xs.reverse))
  | _ => none
theorem d_rev {k : Nat} {p1 p2 p3 : Pos} (ha : DE X e fa) : DE X (.Subscript e (.Slice none none (some (.UnaryOp .USub (.Constant (.int 1) k p1) p2)) p3) pos) (f1 gRev fa) := pe_mono (pe_revA ha) fun σ H Q h => by
  obtain ⟨B, Hf, ρ, r, er, hf, k⟩ := h
  unfold f1 at hf
  obtain ⟨ra, h1, hf⟩ := Option.bind_eq_some_iff.mp hf
  refine ⟨B, Hf, ρ, ra, er, h1, fun v Hf1 H1 g q => ?_⟩
  have e1 := g.fh
  unfold gRev at hf
  split at hf
  · rename_i xs hx
    cases hf
    obtain ⟨p, vs, rfl, s1, d1⟩ := q.lst e1 hx
    refine ⟨p, vs, rfl, .inl ⟨s1, fun n hn => ?_⟩⟩
    exact k _ _ _ (g.trans (Gr.newU e1 hn)) ⟨n, _, rfl, g.h.free hn, e1.free hn, upd_same, dpa_rev d1⟩
  · rename_i xs hx
    cases hf
    obtain ⟨p, vs, rfl, s1, d1⟩ := q.tup hx
    refine ⟨p, vs, rfl, .inr ⟨sqt_mono e1 s1, fun n hn => ?_⟩⟩
    have gn := Gr.new (o := .tup vs.reverse) e1 hn
    exact k _ _ _ (g.trans gn) (Dp.tup (SqT.of upd_same) (dpa_mono gn.f _ _ (dpa_rev d1)))
  · cases hf

/-! ### calls of built-ins -/
def OpC (K : PySem.W.Frag) (r : List V → Hp → VK → Prop) (g : List PyData → Option Res) : Prop :=
  ∀ (B H0 Hf H : Hp) (vs : List V) (rs : List Res) (c : Res) (Q : VK), Same Hf H → Same H0 H → RRs K B H0 Hf H vs rs → g (rs.map Res.rd) = some c →
    (∀ w Hf' H', Gr Hf H Hf' H' → RR K B H Hf' H' w c → Q w H') → r vs H Q
def fC1 (g : List PyData → Option Res) (fs : FA) : FE := fun ρ => (fs ρ).bind fun rs => g (rs.map Res.rd)
theorem entC {K : PySem.W.Frag} {r : List V → Hp → VK → Prop} {g : List PyData → Option Res} (o : OpC K r g) : ∀ σ H Q, tD K (fC1 g fs) σ H Q → tCB r (tDA K fs) σ H Q := fun σ H Q h => by
  obtain ⟨B, Hf, ρ, c, er, hf, k⟩ := h
  unfold fC1 at hf
  obtain ⟨rs, h1, hf⟩ := Option.bind_eq_some_iff.mp hf
  exact ⟨B, Hf, ρ, rs, er, h1, fun vs Hf1 H1 g1 q1 => o B H Hf1 H1 vs rs c Q g1.fh g1.h q1 hf fun w Hf3 H3 g3 q3 => k w Hf3 H3 (g1.trans g3) (q3.back g1.h)⟩
theorem RRs.one {K : PySem.W.Frag} {B H0 Hf H : Hp} {vs : List V} {rs : List Res} {x : PyData} (q : RRs K B H0 Hf H vs rs) (h : rs.map Res.rd = [x]) : ∃ v r, vs = [v] ∧ rs = [r] ∧ r.rd = x ∧ RR K B H0 Hf H v r := by
  cases q with
  | nil => cases h
  | cons a t =>
    cases t with
    | nil => cases h; exact ⟨_, _, rfl, rfl, rfl, a⟩
    | cons b u => cases h
theorem RRs.two {K : PySem.W.Frag} {B H0 Hf H : Hp} {vs : List V} {rs : List Res} {x y : PyData} (q : RRs K B H0 Hf H vs rs) (h : rs.map Res.rd = [x, y]) : ∃ v r w s, vs = [v, w] ∧ rs = [r, s] ∧ r.rd = x ∧ s.rd = y ∧ RR K B H0 Hf H v r ∧ RR K B H0 Hf H w s := by
  cases q with
  | nil => cases h
  | cons a t =>
    cases t with
    | nil => cases h
    | cons b u =>
      cases u with
      | nil => cases h; exact ⟨_, _, _, _, rfl, rfl, rfl, rfl, a, b⟩
      | cons c z => cases h
/-- len -/
def gLen : List PyData → Option Res
  | [.list xs] => some (.fz (.int xs.length))
  | [.tuple xs] => some (.fz (.int xs.length))
  | [.str x] => if small x.length then some (.fz (.int x.length)) else none
  | _ => none
theorem c_len {K : PySem.W.Frag} : OpC K (fun xs H Q => ∃ x n, xs = [x] ∧ LenV K x H n ∧ Q (.int n) H) gLen := fun B H0 Hf H vs rs c Q e1 e2 q hg k => by
  unfold gLen at hg
  split at hg
  · rename_i xs h
    cases hg
    obtain ⟨v, r, rfl, rfl, hr, q1⟩ := q.one h
    obtain ⟨p, ws, rfl, s1, d1⟩ := q1.lst e1 hr
    exact ⟨_, xs.length, rfl, .inl ⟨ws, s1, (dpa_len d1).symm⟩, k _ Hf H (Gr.refl e1) (Dp.int _)⟩
  · rename_i xs h
    cases hg
    obtain ⟨v, r, rfl, rfl, hr, q1⟩ := q.one h
    obtain ⟨p, ws, rfl, s1, d1⟩ := q1.tup hr
    exact ⟨_, xs.length, rfl, .inr ⟨ws, sqt_mono e1 s1, (dpa_len d1).symm⟩, k _ Hf H (Gr.refl e1) (Dp.int _)⟩
  · rename_i x h
    split at hg
    · rename_i hz
      cases hg
      obtain ⟨v, r, rfl, rfl, hr, q1⟩ := q.one h
      cases q1.str hr
      exact ⟨_, x.length, rfl, ⟨sm_line hz, rfl⟩, k _ Hf H (Gr.refl e1) (Dp.int _)⟩
    · cases hg
  · cases hg
def gAbs : List PyData → Option Res
  | [.int i] => some (.fz (.int (if i < 0 then -i else i)))
  | _ => none
theorem c_abs {K : PySem.W.Frag} : OpC K (fun xs H Q => ∃ i, xs = [.int i] ∧ Q (.int (if i < 0 then -i else i)) H) gAbs := fun B H0 Hf H vs rs c Q e1 e2 q hg k => by
  unfold gAbs at hg
  split at hg
  · rename_i i h
    cases hg
    obtain ⟨v, r, rfl, rfl, hr, q1⟩ := q.one h
    cases q1.int hr
    exact ⟨i, rfl, k _ Hf H (Gr.refl e1) (Dp.int _)⟩
  · cases hg
def gInt : List PyData → Option Res
  | [.int i] => some (.fz (.int i))
  | [.bool b] => some (.fz (.int (if b then 1 else 0)))
  | _ => none
theorem c_int {K : PySem.W.Frag} : OpC K (fun xs H Q => (∃ i, xs = [.int i] ∧ Q (.int i) H) ∨ ∃ k, xs = [.bl k] ∧ Q (.int (if k then 1 else 0)) H) gInt := fun B H0 Hf H vs rs c Q e1 e2 q hg k => by
  unfold gInt at hg
  split at hg
  · rename_i i h
    cases hg
    obtain ⟨v, r, rfl, rfl, hr, q1⟩ := q.one h
    cases q1.int hr
    exact .inl ⟨i, rfl, k _ Hf H (Gr.refl e1) (Dp.int _)⟩
  · rename_i b h
    cases hg
    obtain ⟨v, r, rfl, rfl, hr, q1⟩ := q.one h
    cases q1.bl hr
    exact .inr ⟨b, rfl, k _ Hf H (Gr.refl e1) (Dp.int _)⟩
  · cases hg
def gTuple : List PyData → Option Res
  | [.list xs] => some (.fz (.tuple xs))
  | [.tuple xs] => some (.fz (.tuple xs))
  | _ => none
theorem c_tuple {K : PySem.W.Frag} : OpC K (fun xs H Q => ∃ p ys, xs = [.ref p] ∧ ((SqL K H p ys ∧ ∀ l, H l = none → Q (.ref l) (upd H l (.tup ys))) ∨ (SqT K H p ys ∧ Q (.ref p) H))) gTuple := fun B H0 Hf H vs rs c Q e1 e2 q hg k => by
  unfold gTuple at hg
  split at hg
  · rename_i xs h
    cases hg
    obtain ⟨v, r, rfl, rfl, hr, q1⟩ := q.one h
    obtain ⟨p, ws, rfl, s1, d1⟩ := q1.lst e1 hr
    refine ⟨p, ws, rfl, .inl ⟨s1, fun n hn => ?_⟩⟩
    have gn := Gr.new (o := .tup ws) e1 hn
    exact k _ _ _ gn (Dp.tup (SqT.of upd_same) (dpa_mono gn.f _ _ d1))
  · rename_i xs h
    cases hg
    obtain ⟨v, r, rfl, rfl, hr, q1⟩ := q.one h
    obtain ⟨p, ws, rfl, s1, d1⟩ := q1.tup hr
    exact ⟨p, ws, rfl, .inr ⟨sqt_mono e1 s1, k _ Hf H (Gr.refl e1) (Dp.tup s1 d1)⟩⟩
  · cases hg
def gList : List PyData → Option Res
  | [.list xs] => some (.nw xs)
  | [.tuple xs] => some (.nw xs)
  | _ => none
theorem c_list {K : PySem.W.Frag} : OpC K (fun xs H Q => ∃ p ys, xs = [.ref p] ∧ (SqL K H p ys ∨ SqT K H p ys) ∧ ∀ l, H l = none → Q (.ref l) (upd H l (.lst ys))) gList := fun B H0 Hf H vs rs c Q e1 e2 q hg k => by
  unfold gList at hg
  split at hg
  · rename_i xs h
    cases hg
    obtain ⟨v, r, rfl, rfl, hr, q1⟩ := q.one h
    obtain ⟨p, ws, rfl, s1, d1⟩ := q1.lst e1 hr
    refine ⟨p, ws, rfl, .inl s1, fun n hn => ?_⟩
    exact k _ _ _ (Gr.newU e1 hn) ⟨n, _, rfl, hn, e1.free hn, upd_same, d1⟩
  · rename_i xs h
    cases hg
    obtain ⟨v, r, rfl, rfl, hr, q1⟩ := q.one h
    obtain ⟨p, ws, rfl, s1, d1⟩ := q1.tup hr
    refine ⟨p, ws, rfl, .inr (sqt_mono e1 s1), fun n hn => ?_⟩
    exact k _ _ _ (Gr.newU e1 hn) ⟨n, _, rfl, hn, e1.free hn, upd_same, d1⟩
  · cases hg
/-- a list of ints as ints; of bools -/
def intsOf : List PyData → Option (List Int)
  | [] => some []
  | .int i :: r => (intsOf r).map (i :: ·)
  | _ :: _ => none
theorem intsOf_some : ∀ {ds : List PyData} {ns : List Int}, intsOf ds = some ns → ds = ns.map PyData.int
  | [], _, h => by cases h; rfl
  | .int i :: r, _, h => by
    obtain ⟨ms, h1, h2⟩ := Option.map_eq_some_iff.mp (show (intsOf r).map (i :: ·) = _ from h)
    subst h2
    rw [List.map_cons, ← intsOf_some h1]
  | .none :: _, _, h => by cases h
  | .bool _ :: _, _, h => by cases h
  | .str _ :: _, _, h => by cases h
  | .list _ :: _, _, h => by cases h
  | .tuple _ :: _, _, h => by cases h
  | .dict _ :: _, _, h => by cases h
theorem intsOf_map : ∀ ns : List Int, intsOf (ns.map PyData.int) = some ns
  | [] => rfl
  | n :: ns => by
    rw [List.map_cons]
    show (intsOf (ns.map PyData.int)).map (n :: ·) = _
    rw [intsOf_map ns]
    rfl
def boolsOf : List PyData → Option (List Bool)
  | [] => some []
  | .bool i :: r => (boolsOf r).map (i :: ·)
  | _ :: _ => none
theorem boolsOf_some : ∀ {ds : List PyData} {ns : List Bool}, boolsOf ds = some ns → ds = ns.map PyData.bool
  | [], _, h => by cases h; rfl
  | .bool i :: r, _, h => by
    obtain ⟨ms, h1, h2⟩ := Option.map_eq_some_iff.mp (show (boolsOf r).map (i :: ·) = _ from h)
    subst h2
    rw [List.map_cons, ← boolsOf_some h1]
  | .none :: _, _, h => by cases h
  | .int _ :: _, _, h => by cases h
  | .str _ :: _, _, h => by cases h
  | .list _ :: _, _, h => by cases h
  | .tuple _ :: _, _, h => by cases h
  | .dict _ :: _, _, h => by cases h
theorem boolsOf_map : ∀ ns : List Bool, boolsOf (ns.map PyData.bool) = some ns
  | [] => rfl
  | n :: ns => by
    rw [List.map_cons]
    show (boolsOf (ns.map PyData.bool)).map (n :: ·) = _
    rw [boolsOf_map ns]
    rfl
theorem dpa_bools' {K : PySem.W.Frag} {H : Hp} : ∀ {vs : List V} {ns : List Bool}, DpAll K H vs (ns.map PyData.bool) → vs = ns.map V.bl
  | _, [], h => by cases h; rfl
  | _, n :: ns, h => by
    cases h with
    | cons a t =>
      cases a
      rw [dpa_bools' t, List.map_cons]
/-- the lists of a call with one list of ints (bools) -/
theorem RRs.ints {K : PySem.W.Frag} {B H0 Hf H : Hp} {vs : List V} {rs : List Res} {xs : List PyData} {ns : List Int} (q : RRs K B H0 Hf H vs rs) (e1 : Same Hf H) (h : rs.map Res.rd = [.list xs]) (hi : intsOf xs = some ns) : ∃ a, vs = [.ref a] ∧ SqL K H a (ns.map V.int) := by
  obtain ⟨v, r, rfl, rfl, hr, q1⟩ := q.one h
  obtain ⟨p, ws, rfl, s1, d1⟩ := q1.lst e1 hr
  rw [intsOf_some hi] at d1
  rw [dpa_ints' d1] at s1
  exact ⟨p, rfl, s1⟩
theorem RRs.bools {K : PySem.W.Frag} {B H0 Hf H : Hp} {vs : List V} {rs : List Res} {xs : List PyData} {ns : List Bool} (q : RRs K B H0 Hf H vs rs) (e1 : Same Hf H) (h : rs.map Res.rd = [.list xs]) (hi : boolsOf xs = some ns) : ∃ a, vs = [.ref a] ∧ SqL K H a (ns.map V.bl) := by
  obtain ⟨v, r, rfl, rfl, hr, q1⟩ := q.one h
  obtain ⟨p, ws, rfl, s1, d1⟩ := q1.lst e1 hr
  rw [boolsOf_some hi] at d1
  rw [dpa_bools' d1] at s1
  exact ⟨p, rfl, s1⟩
def gSum : List PyData → Option Res
  | [.list xs] => (intsOf xs).map fun ns => .fz (.int ns.sum)
  | _ => none
theorem c_sum {K : PySem.W.Frag} : OpC K (rSum K) gSum := fun B H0 Hf H vs rs c Q e1 e2 q hg k => by
  unfold gSum at hg
  split at hg
  · rename_i xs h
    obtain ⟨ns, h1, h2⟩ := Option.map_eq_some_iff.mp hg
    subst h2
    obtain ⟨a, rfl, s⟩ := q.ints e1 h h1
    exact ⟨a, ns, rfl, s, k _ Hf H (Gr.refl e1) (Dp.int _)⟩
  · cases hg
def gAll : List PyData → Option Res
  | [.list xs] => (boolsOf xs).map fun ns => .fz (.bool (ns.all id))
  | _ => none
theorem c_all {K : PySem.W.Frag} : OpC K (rAll K) gAll := fun B H0 Hf H vs rs c Q e1 e2 q hg k => by
  unfold gAll at hg
  split at hg
  · rename_i xs h
    obtain ⟨ns, h1, h2⟩ := Option.map_eq_some_iff.mp hg
    subst h2
    obtain ⟨a, rfl, s⟩ := q.bools e1 h h1
    exact ⟨a, ns, rfl, s, k _ Hf H (Gr.refl e1) (Dp.bl _)⟩
  · cases hg
def gAny : List PyData → Option Res
  | [.list xs] => (boolsOf xs).map fun ns => .fz (.bool (ns.any id))
  | _ => none
theorem c_any {K : PySem.W.Frag} : OpC K (rAny K) gAny := fun B H0 Hf H vs rs c Q e1 e2 q hg k => by
  unfold gAny at hg
  split at hg
  · rename_i xs h
    obtain ⟨ns, h1, h2⟩ := Option.map_eq_some_iff.mp hg
    subst h2
    obtain ⟨a, rfl, s⟩ := q.bools e1 h h1
    exact ⟨a, ns, rfl, s, k _ Hf H (Gr.refl e1) (Dp.bl _)⟩
  · cases hg
def minL : List Int → Int
  | [] => 0
  | [x] => x
  | x :: y :: r => min x (minL (y :: r))
def maxL : List Int → Int
  | [] => 0
  | [x] => x
  | x :: y :: r => max x (maxL (y :: r))
theorem minL_mem : ∀ {ns : List Int}, ns ≠ [] → minL ns ∈ ns
  | [], h => absurd rfl h
  | [x], _ => by simp [minL]
  | x :: y :: r, _ => by
    have ih := minL_mem (ns := y :: r) (by simp)
    show min x (minL (y :: r)) ∈ _
    rcases Int.le_total x (minL (y :: r)) with h | h
    · rw [Int.min_eq_left h]; exact List.mem_cons_self
    · rw [Int.min_eq_right h]; exact List.mem_cons_of_mem _ ih
theorem minL_le : ∀ {ns : List Int} {z : Int}, z ∈ ns → minL ns ≤ z
  | [x], z, h => by simp at h; subst h; exact Int.le_refl _
  | x :: y :: r, z, h => by
    show min x (minL (y :: r)) ≤ z
    rcases List.mem_cons.mp h with e | h
    · subst e; exact Int.min_le_left _ _
    · exact Int.le_trans (Int.min_le_right _ _) (minL_le h)
theorem maxL_mem : ∀ {ns : List Int}, ns ≠ [] → maxL ns ∈ ns
  | [], h => absurd rfl h
  | [x], _ => by simp [maxL]
  | x :: y :: r, _ => by
    have ih := maxL_mem (ns := y :: r) (by simp)
    show max x (maxL (y :: r)) ∈ _
    rcases Int.le_total x (maxL (y :: r)) with h | h
    · rw [Int.max_eq_right h]; exact List.mem_cons_of_mem _ ih
    · rw [Int.max_eq_left h]; exact List.mem_cons_self
theorem le_maxL : ∀ {ns : List Int} {z : Int}, z ∈ ns → z ≤ maxL ns
  | [x], z, h => by simp at h; subst h; exact Int.le_refl _
  | x :: y :: r, z, h => by
    show z ≤ max x (maxL (y :: r))
    rcases List.mem_cons.mp h with e | h
    · subst e; exact Int.le_max_left _ _
    · exact Int.le_trans (le_maxL h) (Int.le_max_right _ _)
def gMin : List PyData → Option Res
  | [.list xs] => (intsOf xs).bind fun ns => if ns = [] then none else some (.fz (.int (minL ns)))
  | [.int i, .int j] => some (.fz (.int (if j < i then j else i)))
  | _ => none
def gMax : List PyData → Option Res
  | [.list xs] => (intsOf xs).bind fun ns => if ns = [] then none else some (.fz (.int (maxL ns)))
  | [.int i, .int j] => some (.fz (.int (if j > i then j else i)))
  | _ => none
theorem c_min {K : PySem.W.Frag} : OpC K (fun xs H Q => rMin K xs H Q ∨ ∃ i j, xs = [.int i, .int j] ∧ Q (.int (if j < i then j else i)) H) gMin := fun B H0 Hf H vs rs c Q e1 e2 q hg k => by
  unfold gMin at hg
  split at hg
  · rename_i xs h
    obtain ⟨ns, h1, h2⟩ := Option.bind_eq_some_iff.mp hg
    split at h2
    · cases h2
    · rename_i hne
      cases h2
      obtain ⟨a, rfl, s⟩ := q.ints e1 h h1
      refine .inl ⟨a, ns, rfl, s, List.length_pos_iff.mpr hne, fun m h3 h4 => ?_⟩
      have e : m = minL ns := Int.le_antisymm (h4 _ (minL_mem hne)) (minL_le h3)
      rw [e]
      exact k _ Hf H (Gr.refl e1) (Dp.int _)
  · rename_i i j h
    cases hg
    obtain ⟨v, r, w, s, rfl, rfl, h1, h2, q1, q2⟩ := q.two h
    cases q1.int h1
    cases q2.int h2
    exact .inr ⟨i, j, rfl, k _ Hf H (Gr.refl e1) (Dp.int _)⟩
  · cases hg
theorem c_max {K : PySem.W.Frag} : OpC K (fun xs H Q => rMax K xs H Q ∨ ∃ i j, xs = [.int i, .int j] ∧ Q (.int (if j > i then j else i)) H) gMax := fun B H0 Hf H vs rs c Q e1 e2 q hg k => by
  unfold gMax at hg
  split at hg
  · rename_i xs h
    obtain ⟨ns, h1, h2⟩ := Option.bind_eq_some_iff.mp hg
    split at h2
    · cases h2
    · rename_i hne
      cases h2
      obtain ⟨a, rfl, s⟩ := q.ints e1 h h1
      refine .inl ⟨a, ns, rfl, s, List.length_pos_iff.mpr hne, fun m h3 h4 => ?_⟩
      have e : m = maxL ns := Int.le_antisymm (le_maxL h3) (h4 _ (maxL_mem hne))
      rw [e]
      exact k _ Hf H (Gr.refl e1) (Dp.int _)
  · rename_i i j h
    cases hg
    obtain ⟨v, r, w, s, rfl, rfl, h1, h2, q1, q2⟩ := q.two h
    cases q1.int h1
    cases q2.int h2
    exact .inr ⟨i, j, rfl, k _ Hf H (Gr.refl e1) (Dp.int _)⟩
  · cases hg
/-- a built-in function, a built-in class -/
theorem d_blt {x : Str} {p : Pos} {id : String} {r : List V → Hp → VK → Prop} {g : List PyData → Option Res} (hc : CallR X (.builtin id) r) (o : OpC X.K r g) (hm : X.mg x = none) (hv : bootBuiltins x = some (.builtin id)) (ha : DA X (e :: es) fs) (hg : Gl X x := by rfl) (hn : x ≠ "__name__" := by decide) (hdb : (x == ("__debug__" : Str)) = false := by decide)
    (he : starEach (e :: es) X.env = (false, eval e X.env) :: starEach es X.env := by rfl) (hpl : (backTo pos (starEach es X.env)).any (·.1) = false := by rfl) : DE X (.Call (.Name x p) (e :: es) [] pos) (fC1 g fs) := pe_mono (pe_callB hc hg hm hv ha hn hdb he hpl) (entC o)
theorem d_ty {x : Str} {p : Pos} {id : String} {r : List V → Hp → VK → Prop} {g : List PyData → Option Res} (hc : CallR X (.type id) r) (o : OpC X.K r g) (hm : X.mg x = none) (hv : bootBuiltins x = some (.type id)) (ha : DA X (e :: es) fs) (hg : Gl X x := by rfl) (hn : x ≠ "__name__" := by decide) (hdb : (x == ("__debug__" : Str)) = false := by decide)
    (he : starEach (e :: es) X.env = (false, eval e X.env) :: starEach es X.env := by rfl) (hpl : (backTo pos (starEach es X.env)).any (·.1) = false := by rfl) : DE X (.Call (.Name x p) (e :: es) [] pos) (fC1 g fs) := pe_mono (pe_callTy hc hg hm hv ha hn hdb he hpl) (entC o)
/-- isinstance(e, T), T a built-in class -/
def kindS : PyData → String
  | .none => "NoneType"
  | .bool _ => "bool"
  | .int _ => "int"
  | .str _ => "str"
  | .list _ => "list"
  | .tuple _ => "tuple"
  | .dict _ => "dict"
theorem tyx_of {K : PySem.W.Frag} {H : Hp} {v : V} {d : PyData} (h : Dp K H v d) : TyX K H v (.type (kindS d)) := by
  cases h with
  | non => exact .base .non
  | bl b => exact .base (.bl b)
  | int i => exact .base (.int i)
  | str x => exact .base (.str x)
  | lst hs ha =>
    rcases hs with (hs | ⟨o, hs⟩) | ⟨o, its, n, h1, h2, _⟩
    · exact .base (.lst hs)
    · exact .base (.frz hs)
    · exact .kList h1 h2
  | tup hs ha =>
    rcases hs with (hs | ⟨o, hs⟩) | ⟨o, its, n, h1, h2, _⟩
    · exact .base (.tup hs)
    · exact .fTuple hs
    · exact .kTuple h1 h2
def gIsi (n : String) : PyData → Option Res := fun d => (kitB (kindS d) n).map fun b => .fz (.bool b)
theorem d_isi {p q : Pos} {T : Str} {n : String} (ha : DE X e fa) (hm : X.mg "isinstance" = none) (hmT : X.mg T = none) (hvT : bootBuiltins T = some (.type n)) (hb : bootBuiltins "isinstance" = some (.builtin "isinstance")) (hg : Gl X "isinstance" := by rfl) (hgT : Gl X T := by rfl) (hn : T ≠ "__name__" := by decide) (hdb : (T == ("__debug__" : Str)) = false := by decide)
    (h1 : starEach [e, .Name T q] X.env = (false, eval e X.env) :: starEach [.Name T q] X.env := by rfl) (h2 : starEach [.Name T q] X.env = (false, eval (.Name T q) X.env) :: starEach [] X.env := by rfl) (hpl : (backTo pos (starEach [.Name T q] X.env)).any (·.1) = false := by rfl) :
    DE X (.Call (.Name "isinstance" p) [e, .Name T q] [] pos) (f1 (gIsi n) fa) := pe_mono (pe_callB call_isi hg hm hb (pa_cons ha (pa_cons (pe_bltn (v := .ty n) hgT hmT hvT rfl hn hdb) pa_nil h2) h1) (by decide) (by decide) h1 hpl) fun σ H Q h => by
  obtain ⟨B, Hf, ρ, r, er, hf, k⟩ := h
  unfold f1 at hf
  obtain ⟨ra, h1, hf⟩ := Option.bind_eq_some_iff.mp hf
  obtain ⟨b, h3, h4⟩ := Option.map_eq_some_iff.mp hf
  subst h4
  exact ⟨B, Hf, ρ, ra, er, h1, fun v Hf1 H1 g1 q1 => ⟨v, .ty n, _, _, b, rfl, .ty n, tyx_of (q1.dp g1.fh), kit_ty h3, k _ _ _ g1 (Dp.bl _)⟩⟩
end
end DL
namespace DL
open PySem PySem.Spec PyProof.Rows L2

/-! ### what is walked -/
/-- an iterator that yields these data while the heap Hb stands; Hf: what stands still -/
structure Itd (K : PySem.W.Frag) (Hb Hf : Hp) (J : It) (ds : List PyData) : Prop where
  go : ∀ i H, Same Hb H → i < ds.length → J.go i H
  stop : ∀ i H, Same Hb H → ds.length ≤ i → J.stop i H
  yld : ∀ i H x H' Hg d, Same Hb H → Same Hf Hg → Same Hg H → ds[i]? = some d → J.yld i H x H' → ∃ Hg', Gr Hg H Hg' H' ∧ Dp K Hg' x d
theorem Itd.more {K : PySem.W.Frag} {Hb Hf Hb2 Hf2 : Hp} {J : It} {ds : List PyData} (I : Itd K Hb Hf J ds) (h1 : Same Hb Hb2) (h2 : Same Hf Hf2) : Itd K Hb2 Hf2 J ds :=
  ⟨fun i H s h => I.go i H (h1.trans s) h, fun i H s h => I.stop i H (h1.trans s) h, fun i H x H' Hg d s1 s2 s3 e y => I.yld i H x H' Hg d (h1.trans s1) (h2.trans s2) s3 e y⟩
/-- for: what is walked stands still -/
def tDI (K : PySem.W.Frag) (f : Rho → Option (List PyData)) : TI := fun σ H R => ∃ B Hf ρ ds, ER K B Hf H σ ρ ∧ f ρ = some ds ∧ ∀ J Hf' H', Gr Hf H Hf' H' → Itd K Hf' Hf' J ds → R J H'
/-- a comprehension: what is walked may be a slot's own list -/
def tDJ (K : PySem.W.Frag) (f : Rho → Option (List PyData)) : TI := fun σ H R => ∃ B Hf ρ ds, ER K B Hf H σ ρ ∧ f ρ = some ds ∧ ∀ J Hf' H', Gr Hf H Hf' H' → Itd K H' Hf' J ds → R J H'
abbrev DI (X : Cx) (tg e : Expr) (f : Rho → Option (List PyData)) : Prop := PI X tg e (tDI X.K f)
abbrev DJ (X : Cx) (tg e : Expr) (f : Rho → Option (List PyData)) : Prop := PI X tg e (tDJ X.K f)
theorem PI.or {X : Cx} {tg e : Expr} {t u : TI} (h : PI X tg e t) (h' : PI X tg e u) : PI X tg e (fun σ H R => t σ H R ∨ u σ H R) := ⟨fun pins s σ H R I q => by
  rcases q with q | q
  · exact h.run pins s σ H R I q
  · exact h'.run pins s σ H R I q⟩
theorem DI.dj {X : Cx} {tg e : Expr} {f : Rho → Option (List PyData)} (h : DI X tg e f) : DJ X tg e f := pi_mono h fun σ H R q => by
  obtain ⟨B, Hf, ρ, ds, er, hf, k⟩ := q
  exact ⟨B, Hf, ρ, ds, er, hf, fun J Hf' H' g I => k J Hf' H' g (I.more g.fh (Same.refl _))⟩
theorem getE {α : Type} {ds : List α} {i : Nat} (h : i < ds.length) : ds[i]? = some ds[i] := List.getElem?_eq_getElem h
theorem itd_list {K : PySem.W.Frag} {Hb Hf : Hp} {a : Addr} {vs : List V} {ds : List PyData} (h : SqL K Hb a vs) (hd : DpAll K Hf vs ds) : Itd K Hb Hf (Itl K a) ds where
  go := fun i H s hi => by
    obtain ⟨v, h1, h2⟩ := dpa_get hd (getE hi)
    exact ⟨vs, v, s.seq h, h1⟩
  stop := fun i H s hi => ⟨vs, s.seq h, by rw [dpa_len hd]; exact hi⟩
  yld := fun i H x H' Hg d s1 s2 s3 e y => by
    obtain ⟨rfl, y⟩ := y
    obtain ⟨v, h1, h2⟩ := dpa_get hd e
    have := y vs (s1.seq h)
    rw [h1] at this
    cases this
    exact ⟨Hg, Gr.refl s3, dp_mono s2 _ _ h2⟩
theorem itd_tup {K : PySem.W.Frag} {Hb Hf : Hp} {a : Addr} {vs : List V} {ds : List PyData} (h : SqT K Hb a vs) (hd : DpAll K Hf vs ds) : Itd K Hb Hf (Itt K a) ds where
  go := fun i H s hi => by
    obtain ⟨v, h1, h2⟩ := dpa_get hd (getE hi)
    exact ⟨vs, v, sqt_mono s h, h1⟩
  stop := fun i H s hi => ⟨vs, sqt_mono s h, by rw [dpa_len hd]; exact hi⟩
  yld := fun i H x H' Hg d s1 s2 s3 e y => by
    obtain ⟨rfl, y⟩ := y
    obtain ⟨v, h1, h2⟩ := dpa_get hd e
    have := y vs (sqt_mono s1 h)
    rw [h1] at this
    cases this
    exact ⟨Hg, Gr.refl s3, dp_mono s2 _ _ h2⟩
def rgD (lo : Int) (n : Nat) : List PyData := (List.range n).map fun i => .int (lo + (i : Nat))
theorem rgD_len (lo : Int) (n : Nat) : (rgD lo n).length = n := by unfold rgD; rw [List.length_map, List.length_range]
theorem itd_range {K : PySem.W.Frag} {Hb Hf : Hp} {lo : Int} {n : Nat} : Itd K Hb Hf (Itr lo n) (rgD lo n) where
  go := fun i H s hi => by rw [rgD_len] at hi; exact hi
  stop := fun i H s hi => by rw [rgD_len] at hi; exact hi
  yld := fun i H x H' Hg d s1 s2 s3 e y => by
    obtain ⟨rfl, rfl⟩ := y
    have hi : i < n := by
      have := (List.getElem?_eq_some_iff.mp e).1
      rw [rgD_len] at this
      exact this
    have e2 : (rgD lo n)[i]? = some (.int (lo + (i : Nat))) := by
      unfold rgD
      rw [List.getElem?_map, List.getElem?_range hi]
      rfl
    rw [e2] at e
    cases e
    exact ⟨Hg, Gr.refl s3, .int _⟩
def enD : Nat → List PyData → List PyData
  | _, [] => []
  | i, d :: ds => .tuple [.int i, d] :: enD (i + 1) ds
theorem enD_len : ∀ (i : Nat) (ds : List PyData), (enD i ds).length = ds.length
  | _, [] => rfl
  | i, d :: ds => by
    show (enD (i + 1) ds).length + 1 = ds.length + 1
    rw [enD_len]
theorem enD_get : ∀ (k : Nat) (ds : List PyData) (i : Nat), (enD k ds)[i]? = (ds[i]?).map fun d => .tuple [.int (((k + i : Nat)) : Int), d]
  | _, [], i => by simp [enD]
  | k, d :: ds, 0 => by simp [enD]
  | k, d :: ds, i + 1 => by
    show (enD (k + 1) ds)[i]? = _
    rw [enD_get (k + 1) ds i]
    have e : k + 1 + i = k + (i + 1) := by omega
    rw [e]
    rfl
theorem itd_enum {K : PySem.W.Frag} {Hb Hf : Hp} {a : Addr} {vs : List V} {ds : List PyData} (h : SqL K Hb a vs) (hd : DpAll K Hf vs ds) : Itd K Hb Hf (Ite K a) (enD 0 ds) where
  go := fun i H s hi => by
    rw [enD_len] at hi
    obtain ⟨v, h1, h2⟩ := dpa_get hd (getE hi)
    exact ⟨vs, v, s.seq h, h1⟩
  stop := fun i H s hi => by
    rw [enD_len] at hi
    exact ⟨vs, s.seq h, by rw [dpa_len hd]; exact hi⟩
  yld := fun i H x H' Hg d s1 s2 s3 e y => by
    obtain ⟨T, y, rfl, hT, rfl, yy⟩ := y
    rw [enD_get] at e
    obtain ⟨d0, e0, rfl⟩ := Option.map_eq_some_iff.mp e
    obtain ⟨v, h1, h2⟩ := dpa_get hd e0
    have ev : v = y := by
      have q := yy vs (s1.seq h)
      rw [h1] at q
      exact Option.some.inj q
    subst ev
    have gn := Gr.new (o := .tup [.int (i : Nat), v]) s3 hT
    refine ⟨_, gn, .tup (SqT.of upd_same) (.cons ?_ (.cons (dp_mono (s2.trans gn.f) _ _ h2) .nil))⟩
    rw [Nat.zero_add]
    exact .int _

section
variable {X : Cx} {tg a b c e : Expr} {es : List Expr} {fa fb fc : FE} {fs : FA} {pos : Pos}
/-- the items of a result: of one that stands still (or may be made to), of any -/
def itF (f : FE) : Rho → Option (List PyData) := fun ρ => (f ρ).bind fun r => match r with
  | .fz (.list xs) => some xs
  | .fz (.tuple xs) => some xs
  | .nw xs => some xs
  | _ => none
def itR (f : FE) : Rho → Option (List PyData) := fun ρ => (f ρ).bind fun r => match r.rd with
  | .list xs => some xs
  | .tuple xs => some xs
  | _ => none
theorem i_seq (ha : DE X e fa) : DI X tg e (itF fa) := pi_mono (PI.or (pi_list ha) (pi_tup ha)) fun σ H R q => by
  obtain ⟨B, Hf, ρ, ds, er, hf, k⟩ := q
  unfold itF at hf
  obtain ⟨r, h1, h2⟩ := Option.bind_eq_some_iff.mp hf
  split at h2
  · cases h2
    refine .inl ⟨B, Hf, ρ, _, er, h1, fun v Hf' H' g q => ?_⟩
    have q' : Dp X.K Hf' v (.list _) := q
    cases q' with
    | lst hs hd => exact ⟨_, rfl, ⟨_, g.fh.seq hs⟩, k _ _ _ g (itd_list hs hd)⟩
  · cases h2
    refine .inr ⟨B, Hf, ρ, _, er, h1, fun v Hf' H' g q => ?_⟩
    obtain ⟨p, vs, rfl, s1, d1⟩ := q.tup rfl
    exact ⟨p, rfl, ⟨vs, sqt_mono g.fh s1⟩, k _ _ _ g (itd_tup s1 d1)⟩
  · cases h2
    refine .inl ⟨B, Hf, ρ, _, er, h1, fun v Hf' H' g q => ?_⟩
    obtain ⟨Hf2, g2, s2, d2⟩ := q.freeze er g rfl
    cases d2 with
    | lst hs hd => exact ⟨_, rfl, ⟨_, g2.fh.seq hs⟩, k _ _ _ g2 (itd_list hs hd)⟩
  · cases h2
theorem j_seq (ha : DE X e fa) : DJ X tg e (itR fa) := pi_mono (PI.or (pi_list ha) (pi_tup ha)) fun σ H R q => by
  obtain ⟨B, Hf, ρ, ds, er, hf, k⟩ := q
  unfold itR at hf
  obtain ⟨r, h1, h2⟩ := Option.bind_eq_some_iff.mp hf
  split at h2
  · rename_i hr
    cases h2
    refine .inl ⟨B, Hf, ρ, _, er, h1, fun v Hf' H' g q => ?_⟩
    obtain ⟨p, vs, rfl, s1, d1⟩ := q.lst g.fh hr
    exact ⟨p, rfl, ⟨_, s1⟩, k _ _ _ g (itd_list s1 d1)⟩
  · rename_i hr
    cases h2
    refine .inr ⟨B, Hf, ρ, _, er, h1, fun v Hf' H' g q => ?_⟩
    obtain ⟨p, vs, rfl, s1, d1⟩ := q.tup hr
    exact ⟨p, rfl, ⟨vs, sqt_mono g.fh s1⟩, k _ _ _ g (itd_tup (sqt_mono g.fh s1) d1)⟩
  · cases h2
def rg1 (fs : FA) : Rho → Option (List PyData) := fun ρ => (fs ρ).bind fun rs => match rs.map Res.rd with
  | [.int j] => if -(2 ^ 62) ≤ j ∧ j < 2 ^ 62 then some (rgD 0 j.toNat) else none
  | _ => none
def rg2 (fs : FA) : Rho → Option (List PyData) := fun ρ => (fs ρ).bind fun rs => match rs.map Res.rd with
  | [.int i, .int j] => if -(2 ^ 62) ≤ i ∧ i < 2 ^ 62 ∧ -(2 ^ 62) ≤ j ∧ j < 2 ^ 62 then some (rgD i (j - i).toNat) else none
  | _ => none
theorem i_rg1 {p : Pos} (hm : X.mg "range" = none) (ha : DA X [a] fs) (hg : Gl X "range" := by rfl) (hs : starEach [a] X.env = [(false, eval a X.env)] := by rfl) : DI X tg (.Call (.Name "range" p) [a] [] pos) (rg1 fs) := pi_mono (pi_range1 hg hm ha hs) fun σ H R q => by
  obtain ⟨B, Hf, ρ, ds, er, hf, k⟩ := q
  unfold rg1 at hf
  obtain ⟨rs, h1, h2⟩ := Option.bind_eq_some_iff.mp hf
  split at h2
  · rename_i j hj
    split at h2
    · rename_i hz
      cases h2
      refine ⟨B, Hf, ρ, rs, er, h1, fun vs Hf' H' g q => ?_⟩
      obtain ⟨v, r, rfl, rfl, hr, q1⟩ := q.one hj
      cases q1.int hr
      exact ⟨j, rfl, hz.1, hz.2, k _ _ _ g itd_range⟩
    · cases h2
  · cases h2
theorem i_rg2 {p : Pos} (hm : X.mg "range" = none) (ha : DA X [a, b] fs) (hg : Gl X "range" := by rfl) (hs : starEach [a, b] X.env = [(false, eval a X.env), (false, eval b X.env)] := by rfl) (hs2 : starEach [b] X.env = [(false, eval b X.env)] := by rfl) : DI X tg (.Call (.Name "range" p) [a, b] [] pos) (rg2 fs) := pi_mono (pi_range2 hg hm ha hs hs2) fun σ H R q => by
  obtain ⟨B, Hf, ρ, ds, er, hf, k⟩ := q
  unfold rg2 at hf
  obtain ⟨rs, h1, h2⟩ := Option.bind_eq_some_iff.mp hf
  split at h2
  · rename_i i j hj
    split at h2
    · rename_i hz
      cases h2
      refine ⟨B, Hf, ρ, rs, er, h1, fun vs Hf' H' g q => ?_⟩
      obtain ⟨v, r, w, s, rfl, rfl, e1, e2, q1, q2⟩ := q.two hj
      cases q1.int e1
      cases q2.int e2
      exact ⟨i, j, rfl, hz, k _ _ _ g itd_range⟩
    · cases h2
  · cases h2
def enF (fs : FA) : Rho → Option (List PyData) := fun ρ => (fs ρ).bind fun rs => match rs with
  | [.fz (.list xs)] => some (enD 0 xs)
  | [.nw xs] => some (enD 0 xs)
  | _ => none
theorem i_enum {p tpos : Pos} {elts : List Expr} {kk : Nat} (hm : X.mg "enumerate" = none) (ha : DA X [e] fs) (hg : Gl X "enumerate" := by rfl) (hs : starEach [e] X.env = [(false, eval e X.env)] := by rfl) :
    DI X (.Tuple elts kk tpos) (.Call (.Name "enumerate" p) [e] [] pos) (enF fs) := pi_mono (pi_enum hg hm ha hs) fun σ H R q => by
  obtain ⟨B, Hf, ρ, ds, er, hf, k⟩ := q
  unfold enF at hf
  obtain ⟨rs, h1, h2⟩ := Option.bind_eq_some_iff.mp hf
  split at h2
  · rename_i xs
    cases h2
    refine ⟨B, Hf, ρ, _, er, h1, fun vs Hf' H' g q => ?_⟩
    cases q with
    | cons q t =>
      cases t
      have q' : Dp X.K Hf' _ (.list _) := q
      cases q' with
      | lst hs hd => exact ⟨_, _, rfl, g.fh.seq hs, k _ _ _ g (itd_enum hs hd)⟩
  · rename_i xs
    cases h2
    refine ⟨B, Hf, ρ, _, er, h1, fun vs Hf' H' g q => ?_⟩
    cases q with
    | cons q t =>
      cases t
      obtain ⟨Hf2, g2, s2, d2⟩ := q.freeze er g rfl
      cases d2 with
      | lst hs hd => exact ⟨_, _, rfl, g2.fh.seq hs, k _ _ _ g2 (itd_enum hs hd)⟩
  · cases h2
end

/-! ### targets: names, tuples of names -/
abbrev FU := PyData → Rho → Option Rho
def tDG (K : PySem.W.Frag) (u : FU) : TG := fun v σ H Q => ∃ B Hf ρ d ρ', ER K B Hf H σ ρ ∧ Dp K Hf v d ∧ u d ρ = some ρ' ∧ ∀ σ', ER K B Hf H σ' ρ' → Q σ' H
abbrev DG (X : Cx) (e : Expr) (u : FU) : Prop := PG X e (tDG X.K u)
theorem ER.set {K : PySem.W.Frag} {B Hf H : Hp} {σ : L2.St} {ρ : Rho} {v : V} {d : PyData} (er : ER K B Hf H σ ρ) (i : Nat) (h : Dp K Hf v d) : ER K B Hf H (σ.set i (some v)) (ρ.set i (.d d)) := by
  refine ⟨er.fh, er.bh, by rw [List.length_set, List.length_set]; exact er.len, fun j s o h1 h2 => ?_, fun j k xs ys p hjk h1 h2 h3 h4 => ?_⟩
  · by_cases z : i = j
    · subst z
      by_cases hi : i < ρ.length
      · rw [List.getElem?_set_self hi] at h1
        rw [List.getElem?_set_self (by rw [er.len]; exact hi)] at h2
        cases h1; cases h2
        exact ⟨v, rfl, h⟩
      · rw [List.getElem?_eq_none (by rw [List.length_set]; omega)] at h1
        cases h1
    · rw [List.getElem?_set_ne z] at h1 h2
      exact er.sl j s o h1 h2
  · have nj : ∀ {j : Nat} {xs : List PyData}, (ρ.set i (Slot.d d))[j]? = some (.own xs) → i ≠ j := fun {j xs} q z => by
      subst z
      by_cases hi : i < ρ.length
      · rw [List.getElem?_set_self hi] at q; cases q
      · rw [List.getElem?_eq_none (by rw [List.length_set]; omega)] at q; cases q
    have n1 := nj h1
    have n2 := nj h2
    rw [List.getElem?_set_ne n1] at h1 h3
    rw [List.getElem?_set_ne n2] at h2 h4
    exact er.dj j k xs ys p hjk h1 h2 h3 h4
def uName (i : Nat) : FU := fun d ρ => some (ρ.set i (.d d))
section
variable {X : Cx} {e : Expr} {es : List Expr} {pos : Pos} {u : FU}
theorem g_name {x : Str} (i : Nat) (hN : X.N.Nodup) (hi : X.N[i]? = some x := by rfl) (hx : Loc X.env.scope x := by first | exact Or.inl rfl | exact Or.inr rfl) (hf : X.fn x = true ∨ X.env.scope.names.lookup x = some .local := by first | exact .inl rfl | exact .inr rfl | assumption) : DG X (.Name x pos) (uName i) := pg_mono (pg_name (i := i) hN hi hx hf) fun v σ H Q h => by
  obtain ⟨B, Hf, ρ, d, ρ', er, hd, hu, k⟩ := h
  cases hu
  exact k _ (er.set i hd)
abbrev FUs := List PyData → Rho → Option Rho
def tDGs (K : PySem.W.Frag) (u : FUs) : TGs := fun vs σ H Q => ∃ B Hf ρ ds ρ', ER K B Hf H σ ρ ∧ DpAll K Hf vs ds ∧ u ds ρ = some ρ' ∧ ∀ σ', ER K B Hf H σ' ρ' → Q σ' H
abbrev DGs (X : Cx) (es : List Expr) (u : FUs) : Prop := PGs X es (tDGs X.K u)
theorem pgs_mono {X : Cx} {e : List Expr} {t t' : TGs} (h : PGs X e t) (k : ∀ v σ H Q, t' v σ H Q → t v σ H Q) : PGs X e t' := ⟨fun pins s σ H v u Q I r q => h.run pins s σ H v u Q I r (k _ _ _ _ q)⟩
def uNil : FUs := fun ds ρ => match ds with
  | [] => some ρ
  | _ => none
def uCons (u : FU) (us : FUs) : FUs := fun ds ρ => match ds with
  | d :: r => (u d ρ).bind fun ρ1 => us r ρ1
  | _ => none
theorem gs_nil : DGs X [] uNil := pgs_mono pgs_nil fun v σ H Q h => by
  obtain ⟨B, Hf, ρ, d, ρ', er, hd, hu, k⟩ := h
  unfold uNil at hu
  split at hu
  · cases hu
    cases hd
    exact ⟨rfl, k _ er⟩
  · cases hu
theorem gs_cons {us : FUs} (h1 : DG X e u) (h2 : DGs X es us) (hs : (assignEach (e :: es) X.env).map (·.2) = assign e X.env :: (assignEach es X.env).map (·.2) := by rfl) : DGs X (e :: es) (uCons u us) := pgs_mono (pgs_cons h1 h2 hs) fun v σ H Q h => by
  obtain ⟨B, Hf, ρ, d, ρ', er, hd, hu, k⟩ := h
  unfold uCons at hu
  split at hu
  · cases hd with
    | cons a t =>
      obtain ⟨ρ1, e1, e2⟩ := Option.bind_eq_some_iff.mp hu
      exact ⟨_, _, rfl, B, Hf, ρ, _, ρ1, er, a, e1, fun σ' er' => ⟨B, Hf, ρ1, _, ρ', er', t, e2, k⟩⟩
  · cases hu
/-- (a, b, ..) = a tuple or a list of that length -/
def uTup (n : Nat) (us : FUs) : FU := fun d ρ => match d with
  | .tuple ds => if ds.length = n then us ds ρ else none
  | .list ds => if ds.length = n then us ds ρ else none
  | _ => none
theorem PG.or {X : Cx} {e : Expr} {t u : TG} (h : PG X e t) (h' : PG X e u) : PG X e (fun v σ H Q => t v σ H Q ∨ u v σ H Q) := ⟨fun pins s σ H v w Q I r q => by
  rcases q with q | q
  · exact h.run pins s σ H v w Q I r q
  · exact h'.run pins s σ H v w Q I r q⟩
theorem g_tup {k : Nat} {n : Nat} {us : FUs} (h : DGs X es us) (hc : X.calm = true := by rfl) (hn : (assignEach es X.env).length = n := by rfl) (hst : (assignEach es X.env).findIdx? (·.1) = none := by rfl) : DG X (.Tuple es k pos) (uTup n us) := pg_mono (PG.or (pg_tup hc h hn hst) (pg_unl hc h hn hst)) fun v σ H Q h => by
  obtain ⟨B, Hf, ρ, d, ρ', er, hd, hu, k⟩ := h
  unfold uTup at hu
  split at hu
  · split at hu
    · rename_i hl
      cases hd with
      | tup hs ha => exact .inl ⟨_, _, rfl, sqt_mono er.fh hs, by rw [dpa_len ha]; exact hl, B, Hf, ρ, _, ρ', er, ha, hu, k⟩
    · cases hu
  · split at hu
    · rename_i hl
      cases hd with
      | lst hs ha => exact .inr ⟨_, _, rfl, er.fh.seq hs, by rw [dpa_len ha]; exact hl, B, Hf, ρ, _, ρ', er, ha, hu, k⟩
    · cases hu
  · cases hu
end

/-! ### comprehensions -/
def wipeR (ρ : Rho) : List Nat → Rho
  | [] => ρ
  | v :: vs => (wipeR ρ vs).set v .und
theorem ER.wipe {K : PySem.W.Frag} {B Hf H : Hp} {σ : L2.St} {ρ : Rho} (er : ER K B Hf H σ ρ) : ∀ vs : List Nat, ER K B Hf H (L2.wipe σ vs) (wipeR ρ vs)
  | [] => er
  | v :: vs => by
    have ih := er.wipe vs
    unfold L2.wipe wipeR
    refine ⟨ih.fh, ih.bh, by rw [List.length_set, List.length_set]; exact ih.len, fun j s o h1 h2 => ?_, fun j k xs ys p hjk h1 h2 h3 h4 => ?_⟩
    · by_cases z : v = j
      · subst z
        by_cases hi : v < (wipeR ρ vs).length
        · rw [List.getElem?_set_self hi] at h1
          cases h1
          trivial
        · rw [List.getElem?_eq_none (by rw [List.length_set]; omega)] at h1
          cases h1
      · rw [List.getElem?_set_ne z] at h1 h2
        exact ih.sl j s o h1 h2
    · have nj : ∀ {j : Nat} {xs : List PyData}, ((wipeR ρ vs).set v Slot.und)[j]? = some (.own xs) → v ≠ j := fun {j xs} q z => by
        subst z
        by_cases hi : v < (wipeR ρ vs).length
        · rw [List.getElem?_set_self hi] at q; cases q
        · rw [List.getElem?_eq_none (by rw [List.length_set]; omega)] at q; cases q
      have n1 := nj h1
      have n2 := nj h2
      rw [List.getElem?_set_ne n1] at h1 h3
      rw [List.getElem?_set_ne n2] at h2 h4
      exact ih.dj j k xs ys p hjk h1 h2 h3 h4
def lcD (j : Nat) (c : Rho → Option Bool) (e : FE) (ρ : Rho) : List PyData → Option (List PyData)
  | [] => some []
  | x :: xs => (c (ρ.set j (.d x))).bind fun b => if b = true then (e (ρ.set j (.d x))).bind fun r => r.fr.bind fun d => (lcD j c e ρ xs).map fun ds => d :: ds else lcD j c e ρ xs
theorem lcD_len {j : Nat} {c : Rho → Option Bool} {e : FE} {ρ : Rho} : ∀ {xs ds : List PyData}, lcD j c e ρ xs = some ds → ds.length ≤ xs.length
  | [], _, h => by cases h; exact Nat.le_refl _
  | x :: xs, _, h => by
    unfold lcD at h
    obtain ⟨b, h1, h⟩ := Option.bind_eq_some_iff.mp h
    split at h
    · obtain ⟨r, h2, h⟩ := Option.bind_eq_some_iff.mp h
      obtain ⟨d, h3, h⟩ := Option.bind_eq_some_iff.mp h
      obtain ⟨ds, h4, h⟩ := Option.map_eq_some_iff.mp h
      subst h
      exact Nat.succ_le_succ (lcD_len h4)
    · exact Nat.le_succ_of_le (lcD_len h)
def fLc (it : Rho → Option (List PyData)) (j : Nat) (c : Rho → Option Bool) (e : FE) (vs : List Nat) : FE := fun ρ => (it ρ).bind fun xs => if small xs.length then (lcD j c e (wipeR ρ vs) xs).map fun ds => .nw ds else none
theorem lc_ent {K : PySem.W.Frag} {it : Rho → Option (List PyData)} {j : Nat} {c : Rho → Option Bool} {e : FE} : ∀ σ H Q, tD K (fLc it j c e [j]) σ H Q → tLc (tDJ K it) (gName j) (tDT K c) (tD K e) [j] σ H Q := fun σ H Q h => by
  obtain ⟨B, Hf, ρ, r, er, hf, k⟩ := h
  unfold fLc at hf
  obtain ⟨xs, h1, h2⟩ := Option.bind_eq_some_iff.mp hf
  split at h2
  · rename_i hz
    obtain ⟨ds, h3, h4⟩ := Option.map_eq_some_iff.mp h2
    subst h4
    refine ⟨B, Hf, ρ, xs, er, h1, fun J Hf1 H1 g1 I1 D hD => ?_⟩
    have er1 : ER K B Hf1 H1 (L2.wipe σ [j]) (wipeR ρ [j]) := (er.grow g1).wipe [j]
    let P : Nat → Hp → Prop := fun i H2 => ∃ Hg vs acc, Same Hf1 Hg ∧ Same H1 H2 ∧ Same Hg H2 ∧ (∀ a o, H1 a = some o → Hf1 a = none → Hg a = none) ∧ Hg D = none ∧ H2 D = some (.lst vs) ∧ DpAll K Hg vs acc ∧ acc.length ≤ i ∧ ∃ rest, lcD j c e (wipeR ρ [j]) (xs.drop i) = some rest ∧ acc ++ rest = ds
    refine ⟨fun i m H2 => m = xs.length - i ∧ i ≤ xs.length ∧ P i H2, ⟨xs.length, by simp, Nat.zero_le _, Hf1, [], [], Same.refl _, same_upd hD, g1.fh.trans (same_upd hD), fun a o _ n => n, g1.fh.free hD, upd_same, .nil, Nat.le_refl _, ds, by rw [List.drop_zero]; exact h3, rfl⟩, ?_⟩
    rintro i m H2 ⟨rfl, hi, Hg, vs, acc, s1, s2, s3, un, gD, hDv, da, hacc, rest, hl, ha⟩
    by_cases hlt : i < xs.length
    · refine .inr ⟨I1.go i H2 s2 hlt, P (i + 1), fun H' p => ⟨xs.length - (i + 1), by omega, rfl, hlt, p⟩, fun x H3 y => ?_⟩
      obtain ⟨Hg3, g3, dx⟩ := I1.yld i H2 x H3 Hg xs[i] s2 s1 s3 (getE hlt) y
      have gBase : Gr Hg H2 Hg3 H3 := g3
      -- the frame's own slots at this heap
      have erA : ER K B Hg3 H3 (L2.wipe σ [j]) (wipeR ρ [j]) := er1.grow ⟨s1.trans g3.f, s2.trans g3.h, g3.fh, fun a o q n => g3.un a o (s2 _ _ q) (un a o q n)⟩
      have erB := erA.set j dx
      refine ⟨?_, ?_⟩
      · show (((σ.set j none).set j (some x)).set j none) = σ.set j none
        rw [List.set_set, List.set_set]
      · rw [List.drop_eq_getElem_cons hlt] at hl
        unfold lcD at hl
        obtain ⟨bb, hb, hl⟩ := Option.bind_eq_some_iff.mp hl
        refine ⟨B, Hg3, _, bb, erB, hb, fun Hg4 H4 g4 => ?_⟩
        have D3 : H3 D = some (.lst vs) := g3.h _ _ hDv
        have gD3 : Hg3 D = none := g3.un D _ hDv gD
        have D4 : H4 D = some (.lst vs) := g4.h _ _ D3
        have gD4 : Hg4 D = none := g4.un D _ D3 gD3
        cases bb with
        | false =>
          have hl' : lcD j c e (wipeR ρ [j]) (xs.drop (i + 1)) = some rest := by simpa using hl
          show P (i + 1) H4
          refine ⟨Hg4, vs, acc, (s1.trans g3.f).trans g4.f, (s2.trans g3.h).trans g4.h, g4.fh, fun a o q n => g4.un a o (g3.h _ _ (s2 _ _ q)) (g3.un a o (s2 _ _ q) (un a o q n)), gD4, D4, dpa_mono (g3.f.trans g4.f) _ _ da, Nat.le_succ_of_le hacc, rest, hl', ha⟩
        | true =>
          rw [if_pos rfl] at hl
          obtain ⟨r5, h5, hl⟩ := Option.bind_eq_some_iff.mp hl
          obtain ⟨d5, h6, hl⟩ := Option.bind_eq_some_iff.mp hl
          obtain ⟨ds5, h7, hl⟩ := Option.map_eq_some_iff.mp hl
          refine ⟨B, Hg4, _, r5, erB.grow g4, h5, fun y5 Hg5 H5 g5 q5 => ?_⟩
          obtain ⟨Hg6, g6, s6, d6⟩ := q5.freeze (erB.grow g4) g5 h6
          have D5 : H5 D = some (.lst vs) := g6.h _ _ D4
          have gD6 : Hg6 D = none := g6.un D _ D4 gD4
          have lv := dpa_len da
          refine ⟨vs, D5, Nat.lt_of_le_of_lt (by omega : vs.length ≤ xs.length) (Nat.lt_of_le_of_lt hz (by decide)), ?_⟩
          have H1D : ∀ a o, H1 a = some o → a ≠ D := fun a o q z => by rw [z, hD] at q; cases q
          refine ⟨Hg6, vs ++ [y5], acc ++ [d5], ((s1.trans g3.f).trans g4.f).trans g6.f, fun a o q => ?_, fun a o q => ?_, fun a o q n => g6.un a o (g4.h _ _ (g3.h _ _ (s2 _ _ q))) (g4.un a o (g3.h _ _ (s2 _ _ q)) (g3.un a o (s2 _ _ q) (un a o q n))), gD6, upd_same, dpa_app (dpa_mono ((g3.f.trans g4.f).trans g6.f) _ _ da) (.cons d6 .nil), ?_, ds5, h7, ?_⟩
          · rw [upd_ne (H1D a o q)]
            exact g6.h _ _ (g4.h _ _ (g3.h _ _ (s2 _ _ q)))
          · have nD : a ≠ D := fun z => by rw [z, gD6] at q; cases q
            rw [upd_ne nD]
            exact g6.fh _ _ q
          · rw [List.length_append, List.length_singleton]; omega
          · rw [List.append_assoc, ← ha, ← hl]
            rfl
    · have ei : i = xs.length := by omega
      subst ei
      refine .inl ⟨I1.stop _ H2 s2 (Nat.le_refl _), ?_⟩
      rw [List.drop_length] at hl
      cases hl
      rw [List.append_nil] at ha
      subst ha
      have gT : Gr Hf1 H1 Hg H2 := ⟨s1, s2, s3, un⟩
      exact k _ _ _ (g1.trans gT) ⟨D, vs, rfl, g1.h.free hD, gD, hDv, da⟩
  · cases h2
section
variable {X : Cx} {a b c e elt tg iter : Expr} {fa fb fc : FE} {pos : Pos} {it : Rho → Option (List PyData)} {ct : Rho → Option Bool} {scope : Scope} {x : Str} {ifs : List Expr}
def cYes : Rho → Option Bool := fun _ => some true
abbrev DTs (X : Cx) (ifs : List Expr) (f : Rho → Option Bool) : Prop := PTs X ifs (tDT X.K f)
theorem ts_nil : DTs X [] cYes := ⟨fun pins s σ H Q I h => pts_nil.run pins s σ H Q I (by
  obtain ⟨B, Hf, ρ, b, er, hf, k⟩ := h
  cases hf
  exact k _ _ (Gr.refl er.fh))⟩
theorem ts_one {c : Expr} (h : DT X c ct) : DTs X [c] ct := pts_one h
theorem d_lc (j : Nat) (x : Str) (hN : X.N.Nodup) (hi : DJ X tg iter it) (ok : blkC X.N X.env.scope scope [(x, j)] = true)
    (hg : ∀ (s : Shared) (H : Hp) (C : Addr) (cl : List (Str × Addr)) (fp : List Addr), PG (X.blk s H scope (compEnvC scope cl C X.env) fp) tg (gName j))
    (ht : ∀ (s : Shared) (H : Hp) (C : Addr) (cl : List (Str × Addr)) (fp : List Addr), DTs (X.blk s H scope (compEnvC scope cl C X.env) fp) ifs ct)
    (he : ∀ (s : Shared) (H : Hp) (C : Addr) (cl : List (Str × Addr)) (fp : List Addr), DE (X.blk s H scope (compEnvC scope cl C X.env) fp) elt fa) (hc : X.calm = true := by rfl) (hs : ∀ x, foldedSetIterable iter X.env x = pure x := by intro _; rfl) :
    DE X (.ListComp elt [⟨tg, iter, ifs, 0⟩] scope pos) (fLc it j ct fa [j]) := pe_mono (pe_lc (own := [(x, j)]) hc hN hi (blkOk_by ok) hg ht he hs) lc_ent
end
end DL
namespace DL
open PySem PySem.Spec PyProof.Rows L2

inductive Out where
  | nx (ρ : Rho)
  | rt (d : PyData)
  | bk (ρ : Rho)
  | ct (ρ : Rho)
  | ex (x : Str) (ρ : Rho)
abbrev FS := Rho → Option Out
structure GB (B Hf Hf' : Hp) : Prop where
  f : Same Hf Hf'
  un : ∀ a o, B a = some o → Hf a = none → Hf' a = none
theorem GB.refl {B Hf : Hp} : GB B Hf Hf := ⟨Same.refl _, fun _ _ _ n => n⟩
theorem GB.trans {B Hf H1 H2 : Hp} (a : GB B Hf H1) (b : GB B H1 H2) : GB B Hf H2 := ⟨a.f.trans b.f, fun x o e n => b.un x o e (a.un x o e n)⟩
theorem Gr.gb {B Hf H Hf' H' : Hp} (g : Gr Hf H Hf' H') (bh : Same B H) : GB B Hf Hf' := ⟨g.f, fun a o e n => g.un a o (bh _ _ e) n⟩
/-- an own error's class, by its name; the widest wish that the context takes -/
def WgX (X : Cx) : WX := fun cls d σ H => ∀ u s', XE X (fun c e σ' H' => c = cls ∧ e = d ∧ σ' = σ ∧ H' = H) u s' → X.xe u s'
theorem takesW {X : Cx} : Takes X (WgX X) := fun u s' ⟨a, B, sI, pins, σ, H, cls, d, e, I, nb, up, sky, na, os, ag, w⟩ => w u s' ⟨a, B, sI, pins, σ, H, cls, d, e, I, nb, up, sky, na, os, ag, rfl, rfl, rfl, rfl⟩
theorem wgx_of {X : Cx} {W : WX} {cls : Value} {d : Option Addr} {σ : L2.St} {H : Hp} (t : Takes X W) (w : W cls d σ H) : WgX X cls d σ H := fun u s' ⟨a, B, sI, pins, σ', H', cls', d', e, I, nb, up, sky, na, os, ag, e1, e2, e3, e4⟩ => by
  subst e1 e2 e3 e4
  exact t u s' ⟨a, B, sI, pins, _, _, _, _, e, I, nb, up, sky, na, os, ag, w⟩
def Fin (K : PySem.W.Frag) (mg : Str → Option Value) (W : WX) (B Hf : Hp) (D : Ends) : Out → Prop
  | .nx ρ' => ∀ σ' Hf' H', GB B Hf Hf' → ER K B Hf' H' σ' ρ' → D.nx σ' H'
  | .rt d => ∀ v Hf' H', GB B Hf Hf' → Same Hf' H' → Same B H' → Dp K Hf' v d → D.rt v H'
  | .bk ρ' => ∀ σ' Hf' H', GB B Hf Hf' → ER K B Hf' H' σ' ρ' → D.bk σ' H'
  | .ct ρ' => ∀ σ' Hf' H', GB B Hf Hf' → ER K B Hf' H' σ' ρ' → D.ct σ' H'
  | .ex x ρ' => ∀ C σ' Hf' H', mg x = some (.ref C) → GB B Hf Hf' → ER K B Hf' H' σ' ρ' → W (.ref C) none σ' H'
theorem Fin.more {K : PySem.W.Frag} {mg : Str → Option Value} {W : WX} {B Hf Hf1 : Hp} {D : Ends} {o : Out} (h : Fin K mg W B Hf D o) (g : GB B Hf Hf1) : Fin K mg W B Hf1 D o := by
  cases o with
  | nx ρ => exact fun σ' Hf' H' g' er => h σ' Hf' H' (g.trans g') er
  | rt d => exact fun v Hf' H' g' e1 e2 dp => h v Hf' H' (g.trans g') e1 e2 dp
  | bk ρ => exact fun σ' Hf' H' g' er => h σ' Hf' H' (g.trans g') er
  | ct ρ => exact fun σ' Hf' H' g' er => h σ' Hf' H' (g.trans g') er
  | ex x ρ => exact fun C σ' Hf' H' e g' er => h C σ' Hf' H' e (g.trans g') er
def tDS (K : PySem.W.Frag) (mg : Str → Option Value) (W : WX) (g : FS) : TS := fun D σ H => ∃ B Hf ρ o, ER K B Hf H σ ρ ∧ g ρ = some o ∧ Fin K mg W B Hf D o
abbrev DS (X : Cx) (st : Stmt) (g : FS) : Prop := PS X st (tDS X.K X.mg (WgX X) g)
abbrev DSs (X : Cx) (st : List Stmt) (g : FS) : Prop := PSs X st (tDS X.K X.mg (WgX X) g)

section
variable {X : Cx} {a b c e tg iter : Expr} {es : List Expr} {st : Stmt} {rest : List Stmt} {fa fb fc : FE} {fs : FA} {pos : Pos} {g g1 g2 : FS} {t : Rho → Option Bool}
def gNil : FS := fun ρ => some (.nx ρ)
def gSeq (g1 g2 : FS) : FS := fun ρ => (g1 ρ).bind fun o => match o with
  | .nx ρ' => g2 ρ'
  | o => some o
theorem tds_next {K : PySem.W.Frag} {mg : Str → Option Value} {W : WX} {D : Ends} {σ : L2.St} {H : Hp} (h : tDS K mg W gNil D σ H) : D.nx σ H := by
  obtain ⟨B, Hf, ρ, o, er, hg, k⟩ := h
  cases hg
  exact k σ Hf H GB.refl er
theorem ss_nil : DSs X [] gNil := pss_mono pss_nil fun D σ H h => tds_next h
theorem s_pass : DS X (.Pass pos) gNil := ps_mono ps_pass fun D σ H h => tds_next h
theorem ss_one (h : DS X st g) : DSs X [st] g := pss_one h
theorem ss_cons (h1 : DS X st g1) (h2 : DSs X rest g2) : DSs X (st :: rest) (gSeq g1 g2) := pss_mono (pss_cons h1 h2) fun D σ H h => by
  obtain ⟨B, Hf, ρ, o, er, hg, k⟩ := h
  unfold gSeq at hg
  obtain ⟨o1, e1, e2⟩ := Option.bind_eq_some_iff.mp hg
  refine ⟨B, Hf, ρ, o1, er, e1, ?_⟩
  cases o1 with
  | nx ρ1 => exact fun σ' Hf' H' g' er' => ⟨B, Hf', ρ1, o, er', e2, k.more g'⟩
  | rt d => cases e2; exact k
  | bk ρ1 => cases e2; exact k
  | ct ρ1 => cases e2; exact k
  | ex x ρ1 => cases e2; exact k
def gBk : FS := fun ρ => some (.bk ρ)
def gCt : FS := fun ρ => some (.ct ρ)
theorem s_break : DS X (.Break pos) gBk := ps_mono ps_break fun D σ H h => by
  obtain ⟨B, Hf, ρ, o, er, hg, k⟩ := h
  cases hg
  exact k σ Hf H GB.refl er
theorem s_continue : DS X (.Continue pos) gCt := ps_mono ps_continue fun D σ H h => by
  obtain ⟨B, Hf, ρ, o, er, hg, k⟩ := h
  cases hg
  exact k σ Hf H GB.refl er
/-- any result made to stand still (a slot's own list too: the slots are not asked any more) -/
theorem RR.still {K : PySem.W.Frag} {B Hf H Hf' H' : Hp} {σ : L2.St} {ρ : Rho} {v : V} {r : Res} (er : ER K B Hf H σ ρ) (g : Gr Hf H Hf' H') (q : RR K B H Hf' H' v r) : ∃ Hf2, GB B Hf Hf2 ∧ Same Hf2 H' ∧ Same B H' ∧ Dp K Hf2 v r.rd := by
  have bh := er.bh.trans g.h
  cases r with
  | fz y => exact ⟨Hf', g.gb er.bh, g.fh, bh, q⟩
  | nw ys =>
    obtain ⟨Hf2, g2, s2, d2⟩ := q.freeze er g rfl
    exact ⟨Hf2, g2.gb er.bh, g2.fh, bh, d2⟩
  | br ys =>
    obtain ⟨p, vs, rfl, h3, h4, h5, h6⟩ := q
    refine ⟨upd Hf' p (.lst vs), ⟨g.f.trans (same_upd h3), fun a o e n => ?_⟩, fun a o e => ?_, bh, .lst (SqL.of upd_same) (dpa_mono (same_upd h3) _ _ h6)⟩
    · rw [upd_ne (ne_of_none e h4)]; exact g.un a o (er.bh _ _ e) n
    · by_cases z : a = p
      · subst z; rw [upd_same] at e; cases e; exact h5
      · rw [upd_ne z] at e; exact g.fh _ _ e
def gRet (f : FE) : FS := fun ρ => (f ρ).map fun r => .rt r.rd
theorem s_ret (ha : DE X e fa) : DS X (.Return (some e) pos) (gRet fa) := ps_mono (ps_ret ha) fun D σ H h => by
  obtain ⟨B, Hf, ρ, o, er, hg, k⟩ := h
  unfold gRet at hg
  obtain ⟨r, h1, h2⟩ := Option.map_eq_some_iff.mp hg
  subst h2
  refine ⟨B, Hf, ρ, r, er, h1, fun v Hf' H' g' q => ?_⟩
  obtain ⟨Hf2, g2, s1, s2, d⟩ := q.still er g'
  exact k v Hf2 H' g2 s1 s2 d
def gRetN : FS := fun _ => some (.rt .none)
theorem s_retN : DS X (.Return none pos) gRetN := ps_mono ps_retN fun D σ H h => by
  obtain ⟨B, Hf, ρ, o, er, hg, k⟩ := h
  cases hg
  exact k _ Hf H GB.refl er.fh er.bh .non
def gIf (t : Rho → Option Bool) (g1 g2 : FS) : FS := fun ρ => (t ρ).bind fun b => if b = true then g1 ρ else g2 ρ
theorem s_if {p q : List Stmt} (hc : DT X c t) (ha : DSs X p g1) (hb : DSs X q g2) : DS X (.If c p q pos) (gIf t g1 g2) := ps_mono (ps_if hc ha hb) fun D σ H h => by
  obtain ⟨B, Hf, ρ, o, er, hg, k⟩ := h
  unfold gIf at hg
  obtain ⟨bb, h1, h2⟩ := Option.bind_eq_some_iff.mp hg
  refine ⟨B, Hf, ρ, bb, er, h1, fun Hf' H' g' => ?_⟩
  cases bb with
  | true => exact ⟨B, Hf', ρ, o, er.grow g', h2, k.more (g'.gb er.bh)⟩
  | false => exact ⟨B, Hf', ρ, o, er.grow g', h2, k.more (g'.gb er.bh)⟩
def gDrop (f : FE) : FS := fun ρ => (f ρ).map fun _ => .nx ρ
theorem s_expr (ha : DE X e fa) (hs : swapsWith e none pos.line X.env = pure false := by rfl) : DS X (.Expr e pos) (gDrop fa) := ps_mono (ps_expr ha hs) fun D σ H h => by
  obtain ⟨B, Hf, ρ, o, er, hg, k⟩ := h
  unfold gDrop at hg
  obtain ⟨r, h1, h2⟩ := Option.map_eq_some_iff.mp hg
  subst h2
  exact ⟨B, Hf, ρ, r, er, h1, fun v Hf' H' g' q => k σ Hf' H' (g'.gb er.bh) (er.grow g')⟩

/-! ### assignments -/
def gSet (i : Nat) (f : FE) : FS := fun ρ => (f ρ).bind fun r => r.fr.map fun d => .nx (ρ.set i (.d d))
def gSetO (i : Nat) (f : FE) : FS := fun ρ => (f ρ).bind fun r => match r with
  | .nw xs => some (.nx (ρ.set i (.own xs)))
  | .fz d => some (.nx (ρ.set i (.d d)))
  | .br _ => none
theorem ent_set {K : PySem.W.Frag} {mg : Str → Option Value} {W : WX} {te : TE} {i : Nat} (ent : ∀ σ H Q, tD K fa σ H Q → te σ H Q) : ∀ D σ H, tDS K mg W (gSet i fa) D σ H → tAsg te (gName i) D σ H := fun D σ H h => by
  obtain ⟨B, Hf, ρ, o, er, hg, k⟩ := h
  unfold gSet at hg
  obtain ⟨r, h1, h2⟩ := Option.bind_eq_some_iff.mp hg
  obtain ⟨d, h3, h4⟩ := Option.map_eq_some_iff.mp h2
  subst h4
  refine ent σ H _ ⟨B, Hf, ρ, r, er, h1, fun v Hf' H' g' q => ?_⟩
  obtain ⟨Hf2, g2, s2, d2⟩ := q.freeze er g' h3
  exact k _ Hf2 H' (g2.gb er.bh) ((er.grow g2).set i d2)
theorem ER.setO {K : PySem.W.Frag} {B Hf H : Hp} {σ : L2.St} {ρ : Rho} {p : Addr} {vs : List V} {xs : List PyData} (er : ER K B Hf H σ ρ) (i : Nat) (h1 : Hf p = none) (h2 : B p = none) (h3 : H p = some (.lst vs)) (h4 : DpAll K Hf vs xs)
    (hn : ∀ (j : Nat) (ys : List PyData), ρ[j]? = some (Slot.own ys) → σ[j]? ≠ some (some (V.ref p))) : ER K B Hf H (σ.set i (some (.ref p))) (ρ.set i (.own xs)) := by
  refine ⟨er.fh, er.bh, by rw [List.length_set, List.length_set]; exact er.len, fun j s o q1 q2 => ?_, fun j k ys zs p' hjk q1 q2 q3 q4 => ?_⟩
  · by_cases z : i = j
    · subst z
      by_cases hi : i < ρ.length
      · rw [List.getElem?_set_self hi] at q1
        rw [List.getElem?_set_self (by rw [er.len]; exact hi)] at q2
        cases q1; cases q2
        exact ⟨p, vs, rfl, h1, h2, h3, h4⟩
      · rw [List.getElem?_eq_none (by rw [List.length_set]; omega)] at q1
        cases q1
    · rw [List.getElem?_set_ne z] at q1 q2
      exact er.sl j s o q1 q2
  · have self : ∀ {j : Nat} {ys : List PyData} {p' : Addr}, i = j → (ρ.set i (Slot.own xs))[j]? = some (.own ys) → (σ.set i (some (.ref p)))[j]? = some (some (.ref p')) → p' = p := fun {j ys p'} z r1 r2 => by
      subst z
      by_cases hi : i < ρ.length
      · rw [List.getElem?_set_self (by rw [er.len]; exact hi)] at r2
        cases r2; rfl
      · rw [List.getElem?_eq_none (by rw [List.length_set]; omega)] at r1
        cases r1
    by_cases zj : i = j
    · by_cases zk : i = k
      · exact hjk (zj.symm.trans zk)
      · have := self zj q1 q3
        subst this
        rw [List.getElem?_set_ne zk] at q2 q4
        exact hn k zs q2 q4
    · by_cases zk : i = k
      · have := self zk q2 q4
        subst this
        rw [List.getElem?_set_ne zj] at q1 q3
        exact hn j ys q1 q3
      · rw [List.getElem?_set_ne zj] at q1 q3
        rw [List.getElem?_set_ne zk] at q2 q4
        exact er.dj j k ys zs p' hjk q1 q2 q3 q4
theorem ER.own_there {K : PySem.W.Frag} {B Hf H : Hp} {σ : L2.St} {ρ : Rho} (er : ER K B Hf H σ ρ) {j : Nat} {ys : List PyData} {p : Addr} (h : ρ[j]? = some (.own ys)) (h2 : σ[j]? = some (some (.ref p))) : Hf p = none ∧ B p = none ∧ ∃ vs, H p = some (.lst vs) ∧ DpAll K Hf vs ys := by
  obtain ⟨p', vs, e, a1, a2, a3, a4⟩ := er.sl j _ _ h h2
  cases e
  exact ⟨a1, a2, vs, a3, a4⟩
theorem ent_setO {K : PySem.W.Frag} {mg : Str → Option Value} {W : WX} {te : TE} {i : Nat} (ent : ∀ σ H Q, tD K fa σ H Q → te σ H Q) : ∀ D σ H, tDS K mg W (gSetO i fa) D σ H → tAsg te (gName i) D σ H := fun D σ H h => by
  obtain ⟨B, Hf, ρ, o, er, hg, k⟩ := h
  unfold gSetO at hg
  obtain ⟨r, h1, h2⟩ := Option.bind_eq_some_iff.mp hg
  refine ent σ H _ ⟨B, Hf, ρ, r, er, h1, fun v Hf' H' g' q => ?_⟩
  cases r with
  | nw xs =>
    cases h2
    obtain ⟨p, vs, rfl, h0, h3, h5, h6⟩ := q
    refine k _ Hf' H' (g'.gb er.bh) ((er.grow g').setO i h3 (er.bh.free h0) h5 h6 fun j ys e1 e2 => ?_)
    obtain ⟨_, _, ws, e3, _⟩ := er.own_there e1 e2
    rw [h0] at e3; cases e3
  | fz d => cases h2; exact k _ Hf' H' (g'.gb er.bh) ((er.grow g').set i q)
  | br ys => cases h2
theorem s_set {x : Str} {p : Pos} (i : Nat) (hN : X.N.Nodup) (ha : DE X e fa) (hi : X.N[i]? = some x := by rfl) (hx : Loc X.env.scope x := by first | exact Or.inl rfl | exact Or.inr rfl) (hs : swapsWith e (some (.Name x p)) pos.line X.env = pure false := by rfl) (hf : X.fn x = true ∨ X.env.scope.names.lookup x = some .local := by first | exact .inl rfl | exact .inr rfl | assumption) :
    DS X (.Assign [.Name x p] e pos) (gSet i fa) := ps_mono (ps_set (i := i) hN hi hx ha hs hf) (ent_set fun _ _ _ h => h)
theorem s_setO {x : Str} {p : Pos} (i : Nat) (hN : X.N.Nodup) (ha : DE X e fa) (hi : X.N[i]? = some x := by rfl) (hx : Loc X.env.scope x := by first | exact Or.inl rfl | exact Or.inr rfl) (hs : swapsWith e (some (.Name x p)) pos.line X.env = pure false := by rfl) (hf : X.fn x = true ∨ X.env.scope.names.lookup x = some .local := by first | exact .inl rfl | exact .inr rfl | assumption) :
    DS X (.Assign [.Name x p] e pos) (gSetO i fa) := ps_mono (ps_set (i := i) hN hi hx ha hs hf) (ent_setO fun _ _ _ h => h)
/-- y = [..] -/
theorem s_lc {i : Nat} {y : Str} {py ppos : Pos} {elt : Expr} {ifs : List Expr} {scope : Scope} {it : Rho → Option (List PyData)} {ct : Rho → Option Bool} (j : Nat) (x : Str) (hN : X.N.Nodup) (hi : DJ X tg iter it) (ok : blkC X.N X.env.scope scope [(x, j)] = true)
    (hg : ∀ (s : Shared) (H : Hp) (C : Addr) (cl : List (Str × Addr)) (fp : List Addr), PG (X.blk s H scope (compEnvC scope cl C X.env) fp) tg (gName j))
    (ht : ∀ (s : Shared) (H : Hp) (C : Addr) (cl : List (Str × Addr)) (fp : List Addr), DTs (X.blk s H scope (compEnvC scope cl C X.env) fp) ifs ct)
    (he : ∀ (s : Shared) (H : Hp) (C : Addr) (cl : List (Str × Addr)) (fp : List Addr), DE (X.blk s H scope (compEnvC scope cl C X.env) fp) elt fa)
    (hyi : X.N[i]? = some y) (hyl : X.env.scope.names.lookup y = some .local) (hsw : swapsWith (.ListComp elt [⟨tg, iter, ifs, 0⟩] scope ppos) (some (.Name y py)) pos.line X.env = pure true) (hc : X.calm = true) (hs : ∀ x, foldedSetIterable iter X.env x = pure x) :
    PS X (.Assign [.Name y py] (.ListComp elt [⟨tg, iter, ifs, 0⟩] scope ppos) pos) (tAsg (tLc (tDJ X.K it) (gName j) (tDT X.K ct) (tD X.K fa) [j]) (gName i)) :=
  ps_setLc (own := [(x, j)]) hc hN hyi hyl hsw hi (blkOk_by ok) hg ht he hs
theorem s_setLc {y : Str} {py ppos : Pos} {elt : Expr} {ifs : List Expr} {scope : Scope} {it : Rho → Option (List PyData)} {ct : Rho → Option Bool} (i j : Nat) (x : Str) (hN : X.N.Nodup) (hi : DJ X tg iter it) (ok : blkC X.N X.env.scope scope [(x, j)] = true)
    (hg : ∀ (s : Shared) (H : Hp) (C : Addr) (cl : List (Str × Addr)) (fp : List Addr), PG (X.blk s H scope (compEnvC scope cl C X.env) fp) tg (gName j))
    (ht : ∀ (s : Shared) (H : Hp) (C : Addr) (cl : List (Str × Addr)) (fp : List Addr), DTs (X.blk s H scope (compEnvC scope cl C X.env) fp) ifs ct)
    (he : ∀ (s : Shared) (H : Hp) (C : Addr) (cl : List (Str × Addr)) (fp : List Addr), DE (X.blk s H scope (compEnvC scope cl C X.env) fp) elt fa)
    (hyi : X.N[i]? = some y := by rfl) (hyl : X.env.scope.names.lookup y = some .local := by rfl) (hsw : swapsWith (.ListComp elt [⟨tg, iter, ifs, 0⟩] scope ppos) (some (.Name y py)) pos.line X.env = pure true := by exact sw_true rfl rfl rfl (by decide +kernel)) (hc : X.calm = true := by rfl) (hs : ∀ x, foldedSetIterable iter X.env x = pure x := by intro _; rfl) :
    DS X (.Assign [.Name y py] (.ListComp elt [⟨tg, iter, ifs, 0⟩] scope ppos) pos) (gSet i (fLc it j ct fa [j])) := ps_mono (s_lc j x hN hi ok hg ht he hyi hyl hsw hc hs) (ent_set lc_ent)
theorem s_setLcO {y : Str} {py ppos : Pos} {elt : Expr} {ifs : List Expr} {scope : Scope} {it : Rho → Option (List PyData)} {ct : Rho → Option Bool} (i j : Nat) (x : Str) (hN : X.N.Nodup) (hi : DJ X tg iter it) (ok : blkC X.N X.env.scope scope [(x, j)] = true)
    (hg : ∀ (s : Shared) (H : Hp) (C : Addr) (cl : List (Str × Addr)) (fp : List Addr), PG (X.blk s H scope (compEnvC scope cl C X.env) fp) tg (gName j))
    (ht : ∀ (s : Shared) (H : Hp) (C : Addr) (cl : List (Str × Addr)) (fp : List Addr), DTs (X.blk s H scope (compEnvC scope cl C X.env) fp) ifs ct)
    (he : ∀ (s : Shared) (H : Hp) (C : Addr) (cl : List (Str × Addr)) (fp : List Addr), DE (X.blk s H scope (compEnvC scope cl C X.env) fp) elt fa)
    (hyi : X.N[i]? = some y := by rfl) (hyl : X.env.scope.names.lookup y = some .local := by rfl) (hsw : swapsWith (.ListComp elt [⟨tg, iter, ifs, 0⟩] scope ppos) (some (.Name y py)) pos.line X.env = pure true := by exact sw_true rfl rfl rfl (by decide +kernel)) (hc : X.calm = true := by rfl) (hs : ∀ x, foldedSetIterable iter X.env x = pure x := by intro _; rfl) :
    DS X (.Assign [.Name y py] (.ListComp elt [⟨tg, iter, ifs, 0⟩] scope ppos) pos) (gSetO i (fLc it j ct fa [j])) := ps_mono (s_lc j x hN hi ok hg ht he hyi hyl hsw hc hs) (ent_setO lc_ent)
/-- a, b = e -/
def gAsg (u : FU) (f : FE) : FS := fun ρ => (f ρ).bind fun r => r.fr.bind fun d => (u d ρ).map .nx
theorem s_asg {u : FU} (ha : DE X e fa) (hg : DG X tg u) (hs : swapsWithSole [tg] e pos.line X.env = pure false := by rfl) (hw : swappedStores [tg] e X.env = pure none := by rfl)
    (h1 : (assignEach [tg] X.env).map (·.2) = [assign tg X.env] := by rfl) : DS X (.Assign [tg] e pos) (gAsg u fa) := ps_mono (ps_asg ha hg hs hw h1) fun D σ H h => by
  obtain ⟨B, Hf, ρ, o, er, hg, k⟩ := h
  unfold gAsg at hg
  obtain ⟨r, h1, h2⟩ := Option.bind_eq_some_iff.mp hg
  obtain ⟨d, h3, h4⟩ := Option.bind_eq_some_iff.mp h2
  obtain ⟨ρ1, h5, h6⟩ := Option.map_eq_some_iff.mp h4
  subst h6
  refine ⟨B, Hf, ρ, r, er, h1, fun v Hf' H' g' q => ?_⟩
  obtain ⟨Hf2, g2, s2, d2⟩ := q.freeze er g' h3
  exact ⟨B, Hf2, ρ, d, ρ1, er.grow g2, d2, h5, fun σ' er' => k σ' Hf2 H' (g2.gb er.bh) er'⟩
/-- a, b = x, y, written on both sides -/
def gPar (i j : Nat) (fs : FA) : FS := fun ρ => (fs ρ).bind fun rs => (frs rs).bind fun ds => match ds with
  | [x, y] => some (.nx ((ρ.set i (.d x)).set j (.d y)))
  | _ => none
theorem s_par {x y : Str} {px py pt pt2 : Pos} {kt k2} (i j : Nat) (hN : X.N.Nodup) (ha : DA X [a, b] fs) (hij : i ≠ j := by decide) (hi : X.N[i]? = some x := by rfl) (hj : X.N[j]? = some y := by rfl) (hx : X.env.scope.names.lookup x = some .local := by rfl) (hy : X.env.scope.names.lookup y = some .local := by rfl)
    (hw : swappedStores [.Tuple [.Name x px, .Name y py] kt pt] (.Tuple [a, b] k2 pt2) X.env = pure (some [x, y]) := by rfl) (hs : swapsWithSole [.Tuple [.Name x px, .Name y py] kt pt] (.Tuple [a, b] k2 pt2) pos.line X.env = pure false := by rfl) (hc : X.calm = true := by rfl) :
    DS X (.Assign [.Tuple [.Name x px, .Name y py] kt pt] (.Tuple [a, b] k2 pt2) pos) (gPar i j fs) := ps_mono (ps_par (i := i) (j := j) hc hN hi hj hij hx hy ha hw hs) fun D σ H h => by
  obtain ⟨B, Hf, ρ, o, er, hg, k⟩ := h
  unfold gPar at hg
  obtain ⟨rs, h1, h2⟩ := Option.bind_eq_some_iff.mp hg
  obtain ⟨ds, h3, h4⟩ := Option.bind_eq_some_iff.mp h2
  refine ⟨B, Hf, ρ, rs, er, h1, fun vs Hf' H' g' q => ?_⟩
  obtain ⟨Hf2, g2, s2, d2⟩ := RRs.freeze er g' q h3
  split at h4
  · cases h4
    cases d2 with
    | cons a1 t1 =>
      cases t1 with
      | cons a2 t2 =>
        cases t2
        exact ⟨_, _, rfl, k _ Hf2 H' (g2.gb er.bh) (((er.grow g2).set i a1).set j a2)⟩
  · cases h4
/-- x += e -/
def gAug (i : Nat) (h : PyData → PyData → Option PyData) (f : FE) : FS := fun ρ => match ρ[i]? with
  | some (.d x) => (f ρ).bind fun r => (h x r.rd).map fun d => .nx (ρ.set i (.d d))
  | _ => none
def hAdd : PyData → PyData → Option PyData
  | .int i, .int j => some (.int (i + j))
  | _, _ => none
def hSub : PyData → PyData → Option PyData
  | .int i, .int j => some (.int (i - j))
  | _, _ => none
theorem s_augI {x : Str} {p : Pos} {op : Operator} {h2 : Int → Int → Int} {h : PyData → PyData → Option PyData} (i : Nat) (hN : X.N.Nodup) (ho : PIp X op (rI0 fun i j => .int (h2 i j))) (hh : ∀ x y d, h x y = some d → ∃ i j, x = .int i ∧ y = .int j ∧ d = .int (h2 i j)) (ha : DE X e fa) (hi : X.N[i]? = some x := by rfl) (hx : Loc X.env.scope x := by first | exact Or.inl rfl | exact Or.inr rfl) (hf : X.fn x = true ∨ X.env.scope.names.lookup x = some .local := by first | exact .inl rfl | exact .inr rfl | assumption) :
    DS X (.AugAssign (.Name x p) op e pos) (gAug i h fa) := ps_mono (ps_aug (i := i) hN hi hx ha ho hf) fun D σ H q => by
  obtain ⟨B, Hf, ρ, o, er, hg, k⟩ := q
  unfold gAug at hg
  split at hg
  · rename_i x0 hs
    obtain ⟨r, h3, h4⟩ := Option.bind_eq_some_iff.mp hg
    obtain ⟨d, h5, h6⟩ := Option.map_eq_some_iff.mp h4
    subst h6
    obtain ⟨n, m, rfl, e2, rfl⟩ := hh _ _ _ h5
    have hiσ : i < σ.length := by rw [er.len]; exact (List.getElem?_eq_some_iff.mp hs).1
    have hoσ : σ[i]? = some σ[i] := List.getElem?_eq_getElem hiσ
    obtain ⟨v, ev, hd⟩ := er.sl i _ _ hs hoσ
    cases hd
    refine ⟨.int n, by rw [hoσ, ev], B, Hf, ρ, r, er, h3, fun w Hf' H' g' q => ⟨n, m, rfl, q.int e2, ?_⟩⟩
    exact k _ Hf' H' (g'.gb er.bh) ((er.grow g').set i (.int _))
  · cases hg
theorem s_aug_add {x : Str} {p : Pos} (i : Nat) (hN : X.N.Nodup) (ha : DE X e fa) (hi : X.N[i]? = some x := by rfl) (hx : Loc X.env.scope x := by first | exact Or.inl rfl | exact Or.inr rfl) (hf : X.fn x = true ∨ X.env.scope.names.lookup x = some .local := by first | exact .inl rfl | exact .inr rfl | assumption) :
    DS X (.AugAssign (.Name x p) .Add e pos) (gAug i hAdd fa) := s_augI i hN iop_add (fun x y d h => by
  unfold hAdd at h
  split at h
  · cases h; exact ⟨_, _, rfl, rfl, rfl⟩
  · cases h) ha hi hx hf
theorem s_aug_sub {x : Str} {p : Pos} (i : Nat) (hN : X.N.Nodup) (ha : DE X e fa) (hi : X.N[i]? = some x := by rfl) (hx : Loc X.env.scope x := by first | exact Or.inl rfl | exact Or.inr rfl) (hf : X.fn x = true ∨ X.env.scope.names.lookup x = some .local := by first | exact .inl rfl | exact .inr rfl | assumption) :
    DS X (.AugAssign (.Name x p) .Sub e pos) (gAug i hSub fa) := s_augI i hN iop_sub (fun x y d h => by
  unfold hSub at h
  split at h
  · cases h; exact ⟨_, _, rfl, rfl, rfl⟩
  · cases h) ha hi hx hf

/-! ### a slot's own list changed -/
/-- its new content at p -/
theorem ER.put {K : PySem.W.Frag} {B Hf H : Hp} {σ : L2.St} {ρ : Rho} {i : Nat} {p : Addr} {xs ys : List PyData} {vs : List V} (er : ER K B Hf H σ ρ) (h : ρ[i]? = some (.own xs)) (h2 : σ[i]? = some (some (.ref p))) (hd : DpAll K Hf vs ys) : ER K B Hf (upd H p (.lst vs)) σ (ρ.set i (.own ys)) := by
  obtain ⟨a1, a2, ws, a3, a4⟩ := er.own_there h h2
  have hi : i < ρ.length := (List.getElem?_eq_some_iff.mp h).1
  refine ⟨same_mut er.fh a1, same_mut er.bh a2, by rw [List.length_set]; exact er.len, fun j s o q1 q2 => ?_, fun j k zs us p' hjk q1 q2 q3 q4 => ?_⟩
  · by_cases z : i = j
    · subst z
      rw [List.getElem?_set_self hi] at q1
      cases q1
      rw [h2] at q2
      cases q2
      exact ⟨p, vs, rfl, a1, a2, upd_same, hd⟩
    · rw [List.getElem?_set_ne z] at q1
      have q := er.sl j s o q1 q2
      cases s with
      | und => trivial
      | pin v => exact q
      | d x => exact q
      | own zs =>
        obtain ⟨p', ws', e, b1, b2, b3, b4⟩ := q
        subst e
        have ne : p' ≠ p := fun z2 => by
          subst z2
          exact er.dj i j xs zs p' z h q1 h2 q2
        exact ⟨p', ws', rfl, b1, b2, by rw [upd_ne ne]; exact b3, b4⟩
  · have back : ∀ {j : Nat} {zs : List PyData}, (ρ.set i (Slot.own ys))[j]? = some (.own zs) → ∃ zs', ρ[j]? = some (.own zs') := fun {j zs} r => by
      by_cases z : i = j
      · subst z; exact ⟨xs, h⟩
      · rw [List.getElem?_set_ne z] at r; exact ⟨zs, r⟩
    obtain ⟨zs', r1⟩ := back q1
    obtain ⟨us', r2⟩ := back q2
    exact er.dj j k zs' us' p' hjk r1 r2 q3 q4
theorem ER.at {K : PySem.W.Frag} {B Hf H : Hp} {σ : L2.St} {ρ : Rho} {i : Nat} {xs : List PyData} (er : ER K B Hf H σ ρ) (h : ρ[i]? = some (.own xs)) : ∃ p, σ[i]? = some (some (.ref p)) := by
  have hiσ : i < σ.length := by rw [er.len]; exact (List.getElem?_eq_some_iff.mp h).1
  have hoσ : σ[i]? = some σ[i] := List.getElem?_eq_getElem hiσ
  obtain ⟨p, vs, e, _⟩ := er.sl i _ _ h hoσ
  exact ⟨p, by rw [hoσ, e]⟩
/-- xs.append(e) -/
def gApp (i : Nat) (f : FE) : FS := fun ρ => match ρ[i]? with
  | some (.own xs) => (f ρ).bind fun r => r.fr.bind fun d => if small xs.length then some (.nx (ρ.set i (.own (xs ++ [d])))) else none
  | _ => none
theorem s_app {x : Str} {p apos cpos : Pos} (i : Nat) (ha : DE X e fa) (hp : PS X (.Expr (.Call (.Attribute (.Name x p) "append" apos) [e] [] cpos) pos) (tDrop (tBM X.K "list" rAppend (tVar i) (tCons (tD X.K fa) tNil)))) :
    DS X (.Expr (.Call (.Attribute (.Name x p) "append" apos) [e] [] cpos) pos) (gApp i fa) := ps_mono hp fun D σ H q => by
  obtain ⟨B, Hf, ρ, o, er, hg, k⟩ := q
  unfold gApp at hg
  split at hg
  · rename_i xs hs
    obtain ⟨r, h3, h4⟩ := Option.bind_eq_some_iff.mp hg
    obtain ⟨d, h5, h6⟩ := Option.bind_eq_some_iff.mp h4
    split at h6
    · rename_i hz
      cases h6
      obtain ⟨l, hl⟩ := er.at hs
      obtain ⟨a1, a2, ws, a3, a4⟩ := er.own_there hs hl
      refine ⟨.ref l, hl, .inl ⟨rfl, _, SqL.of a3⟩, B, Hf, ρ, r, er, h3, fun v Hf' H' g' q => ?_⟩
      obtain ⟨Hf2, g2, s2, d2⟩ := q.freeze er g' h5
      have er2 := er.grow g2
      obtain ⟨b1, b2, ws2, b3, b4⟩ := er2.own_there hs hl
      refine ⟨l, ws2, v, rfl, rfl, b3, by rw [dpa_len b4]; exact Nat.lt_of_le_of_lt hz (by decide), ?_⟩
      exact k _ Hf2 _ (g2.gb er.bh) (er2.put hs hl (dpa_app b4 (.cons d2 .nil)))
    · cases h6
  · cases hg
/-- xs[j] = e -/
def gPut (i : Nat) (fj : FE) (f : FE) : FS := fun ρ => (f ρ).bind fun r => r.fr.bind fun d => (fj ρ).bind fun j => match ρ[i]?, j.rd with
  | some (.own xs), .int n => (ixN xs.length n).map fun m => .nx (ρ.set i (.own (xs.set m d)))
  | _, _ => none
theorem s_put {x : Str} {p tpos : Pos} (i : Nat) (ha : DE X e fa) (hb : DE X b fb) (hp : PS X (.Assign [.Subscript (.Name x p) b tpos] e pos) (tAsg (tD X.K fa) (gSub (tVar i) (tD X.K fb) rSetL))) :
    DS X (.Assign [.Subscript (.Name x p) b tpos] e pos) (gPut i fb fa) := ps_mono hp fun D σ H q => by
  obtain ⟨B, Hf, ρ, o, er, hg, k⟩ := q
  unfold gPut at hg
  obtain ⟨r, h3, h4⟩ := Option.bind_eq_some_iff.mp hg
  obtain ⟨d, h5, h6⟩ := Option.bind_eq_some_iff.mp h4
  obtain ⟨j, h7, h8⟩ := Option.bind_eq_some_iff.mp h6
  split at h8
  · rename_i xs n hs hj
    obtain ⟨m, h9, h10⟩ := Option.map_eq_some_iff.mp h8
    subst h10
    refine ⟨B, Hf, ρ, r, er, h3, fun v Hf' H' g' q => ?_⟩
    obtain ⟨Hf2, g2, s2, d2⟩ := q.freeze er g' h5
    have er2 := er.grow g2
    obtain ⟨l, hl⟩ := er2.at hs
    refine ⟨.ref l, hl, B, Hf2, ρ, j, er2, h7, fun w Hf3 H3 g3 q3 => ?_⟩
    have er3 := er2.grow g3
    obtain ⟨b1, b2, ws2, b3, b4⟩ := er3.own_there hs hl
    refine ⟨l, ws2, n, m, rfl, q3.int hj, b3, by rw [dpa_len b4]; exact h9, ?_⟩
    exact k _ Hf3 _ ((g2.trans g3).gb er.bh) (er3.put hs hl (dpa_set (dp_mono g3.f _ _ d2) m b4))
  · cases h8
/-- a slot's own list is left as it is from here on -/
def frz (i : Nat) (ρ : Rho) : Rho := match ρ[i]? with
  | some (.own xs) => ρ.set i (.d (.list xs))
  | _ => ρ
theorem ER.frz {K : PySem.W.Frag} {B Hf H : Hp} {σ : L2.St} {ρ : Rho} (er : ER K B Hf H σ ρ) (i : Nat) : ∃ Hf2, GB B Hf Hf2 ∧ ER K B Hf2 H σ (DL.frz i ρ) := by
  unfold DL.frz
  split
  · rename_i xs hs
    obtain ⟨p, hp⟩ := er.at hs
    obtain ⟨a1, a2, ws, a3, a4⟩ := er.own_there hs hp
    have hi : i < ρ.length := (List.getElem?_eq_some_iff.mp hs).1
    refine ⟨upd Hf p (.lst ws), ⟨same_upd a1, fun a o e n => by rw [upd_ne (ne_of_none e a2)]; exact n⟩, fun a o e => ?_, er.bh, by rw [List.length_set]; exact er.len, fun j s o q1 q2 => ?_, fun j k ys zs p' hjk q1 q2 q3 q4 => ?_⟩
    · by_cases z : a = p
      · subst z; rw [upd_same] at e; cases e; exact a3
      · rw [upd_ne z] at e; exact er.fh _ _ e
    · by_cases z : i = j
      · subst z
        rw [List.getElem?_set_self hi] at q1
        cases q1
        rw [hp] at q2
        cases q2
        exact ⟨_, rfl, .lst (SqL.of upd_same) (dpa_mono (same_upd a1) _ _ a4)⟩
      · rw [List.getElem?_set_ne z] at q1
        have q := er.sl j s o q1 q2
        cases s with
        | und => trivial
        | pin v => exact q
        | d x => obtain ⟨v, e, hd⟩ := q; exact ⟨v, e, dp_mono (same_upd a1) _ _ hd⟩
        | own zs =>
          obtain ⟨p', ws', e, b1, b2, b3, b4⟩ := q
          subst e
          have ne : p' ≠ p := fun z2 => by
            subst z2
            exact er.dj i j xs zs p' z hs q1 hp q2
          exact ⟨p', ws', rfl, by rw [upd_ne ne]; exact b1, b2, b3, dpa_mono (same_upd a1) _ _ b4⟩
    · have back : ∀ {j : Nat} {zs : List PyData}, (ρ.set i (Slot.d (.list xs)))[j]? = some (.own zs) → ρ[j]? = some (.own zs) := fun {j zs} r => by
        by_cases z : i = j
        · subst z; rw [List.getElem?_set_self hi] at r; cases r
        · rw [List.getElem?_set_ne z] at r; exact r
      exact er.dj j k ys zs p' hjk (back q1) (back q2) q3 q4
  · exact ⟨Hf, GB.refl, er⟩
theorem s_frz (i : Nat) (h : DS X st g) : DS X st (fun ρ => g (frz i ρ)) := ps_mono h fun D σ H q => by
  obtain ⟨B, Hf, ρ, o, er, hg, k⟩ := q
  obtain ⟨Hf2, g2, er2⟩ := er.frz i
  exact ⟨B, Hf2, _, o, er2, hg, k.more g2⟩

/-! ### loops -/
def forD (u : FU) (body : FS) : List PyData → Rho → Option Out
  | [], ρ => some (.nx ρ)
  | x :: xs, ρ => (u x ρ).bind fun ρ1 => (body ρ1).bind fun o => match o with
    | .nx ρ2 => forD u body xs ρ2
    | .ct ρ2 => forD u body xs ρ2
    | .bk ρ2 => some (.nx ρ2)
    | .rt d => some (.rt d)
    | .ex x ρ2 => some (.ex x ρ2)
def gFor (it : Rho → Option (List PyData)) (u : FU) (body : FS) : FS := fun ρ => (it ρ).bind fun xs => forD u body xs ρ
theorem s_for {it : Rho → Option (List PyData)} {u : FU} {body : List Stmt} (hi : DI X tg iter it) (hg : DG X tg u) (hb : DSs X body g) (hp : PassesOwn (model X.prog X.w) X.A X.env X.xe := by exact PassesOwn.never) (hc : X.calm = true := by rfl) (hs : ∀ x, foldedSetIterable iter X.env x = pure x := by intro _; rfl) :
    DS X (.For tg iter body [] pos) (gFor it u g) := ps_mono (ps_for hp hc hi hg hb hs) fun D σ H h => by
  obtain ⟨B, Hf, ρ, o, er, hg, k⟩ := h
  unfold gFor at hg
  obtain ⟨xs, h1, h2⟩ := Option.bind_eq_some_iff.mp hg
  refine ⟨B, Hf, ρ, xs, er, h1, fun J Hf1 H1 g1 I1 => ?_⟩
  have gb1 := g1.gb er.bh
  let P : Nat → L2.St → Hp → Prop := fun i σ' H' => ∃ Hg ρ', GB B Hf1 Hg ∧ ER X.K B Hg H' σ' ρ' ∧ forD u g (xs.drop i) ρ' = some o
  refine ⟨fun i m σ' H' => m = xs.length - i ∧ i ≤ xs.length ∧ P i σ' H', ⟨xs.length, by simp, Nat.zero_le _, Hf1, ρ, GB.refl, er.grow g1, by rw [List.drop_zero]; exact h2⟩, ?_⟩
  rintro i m σ2 H2 ⟨rfl, hi, Hg, ρ2, gb, er2, hl⟩
  have s2 : Same Hf1 H2 := gb.f.trans er2.fh
  by_cases hlt : i < xs.length
  · refine .inr ⟨I1.go i H2 s2 hlt, P (i + 1), fun σ' H' p => ⟨xs.length - (i + 1), by omega, rfl, hlt, p⟩, fun x H3 y => ?_⟩
    obtain ⟨Hg3, g3, dx⟩ := I1.yld i H2 x H3 Hg xs[i] s2 gb.f er2.fh (getE hlt) y
    rw [List.drop_eq_getElem_cons hlt] at hl
    unfold forD at hl
    obtain ⟨ρ3, h3, h4⟩ := Option.bind_eq_some_iff.mp hl
    obtain ⟨o4, h5, h6⟩ := Option.bind_eq_some_iff.mp h4
    have er3 := er2.grow g3
    have gb3 : GB B Hf1 Hg3 := gb.trans (g3.gb er2.bh)
    refine ⟨B, Hg3, ρ2, xs[i], ρ3, er3, dx, h3, fun σ4 er4 => ⟨B, Hg3, ρ3, o4, er4, h5, ?_⟩⟩
    cases o4 with
    | nx ρ5 => exact fun σ' Hf' H' g' er' => ⟨Hf', ρ5, gb3.trans g', er', h6⟩
    | ct ρ5 => exact fun σ' Hf' H' g' er' => ⟨Hf', ρ5, gb3.trans g', er', h6⟩
    | bk ρ5 =>
      cases h6
      exact fun σ' Hf' H' g' er' => k σ' Hf' H' ((gb1.trans gb3).trans g') er'
    | rt d =>
      cases h6
      exact fun v Hf' H' g' e1 e2 dp => k v Hf' H' ((gb1.trans gb3).trans g') e1 e2 dp
    | ex x ρ5 =>
      cases h6
      exact fun C σ' Hf' H' e g' er' => k C σ' Hf' H' e ((gb1.trans gb3).trans g') er'
  · have ei : i = xs.length := by omega
    subst ei
    rw [List.drop_length] at hl
    cases hl
    exact .inl ⟨I1.stop _ H2 s2 (Nat.le_refl _), k σ2 Hg H2 (gb1.trans gb) er2⟩
def whD (c : Rho → Option Bool) (body : FS) : Nat → Rho → Option Out
  | 0, _ => none
  | n + 1, ρ => (c ρ).bind fun b => if b = true then (body ρ).bind fun o => match o with
    | .nx ρ2 => whD c body n ρ2
    | .ct ρ2 => whD c body n ρ2
    | .bk ρ2 => some (.nx ρ2)
    | .rt d => some (.rt d)
    | .ex x ρ2 => some (.ex x ρ2)
    else some (.nx ρ)
def gWh (m : Rho → Nat) (c : Rho → Option Bool) (body : FS) : FS := fun ρ => whD c body (m ρ) ρ
theorem s_while (m : Rho → Nat) {body : List Stmt} (ht : DT X c t) (hb : DSs X body g) (hp : PassesOwn (model X.prog X.w) X.A X.env X.xe := by exact PassesOwn.never) : DS X (.While c body [] pos) (gWh m t g) := ps_mono (ps_while hp ht hb) fun D σ H h => by
  obtain ⟨B, Hf, ρ, o, er, hg, k⟩ := h
  unfold gWh at hg
  let P : Nat → L2.St → Hp → Prop := fun n σ' H' => ∃ Hg ρ', GB B Hf Hg ∧ ER X.K B Hg H' σ' ρ' ∧ whD t g n ρ' = some o
  refine ⟨P, ⟨m ρ, Hf, ρ, GB.refl, er, hg⟩, ?_⟩
  rintro n σ2 H2 ⟨Hg, ρ2, gb, er2, hl⟩
  cases n with
  | zero => cases hl
  | succ n =>
    unfold whD at hl
    obtain ⟨bb, h3, h4⟩ := Option.bind_eq_some_iff.mp hl
    refine ⟨B, Hg, ρ2, bb, er2, h3, fun Hf3 H3 g3 => ?_⟩
    have er3 := er2.grow g3
    have gb3 : GB B Hf Hf3 := gb.trans (g3.gb er2.bh)
    cases bb with
    | true =>
      rw [if_pos rfl] at h4
      obtain ⟨o4, h5, h6⟩ := Option.bind_eq_some_iff.mp h4
      refine iteT ?_
      refine ⟨P n, fun σ' H' p => ⟨n, Nat.lt_succ_self _, p⟩, B, Hf3, ρ2, o4, er3, h5, ?_⟩
      cases o4 with
      | nx ρ5 => exact fun σ' Hf' H' g' er' => ⟨Hf', ρ5, gb3.trans g', er', h6⟩
      | ct ρ5 => exact fun σ' Hf' H' g' er' => ⟨Hf', ρ5, gb3.trans g', er', h6⟩
      | bk ρ5 =>
        cases h6
        exact fun σ' Hf' H' g' er' => k σ' Hf' H' (gb3.trans g') er'
      | rt d =>
        cases h6
        exact fun v Hf' H' g' e1 e2 dp => k v Hf' H' (gb3.trans g') e1 e2 dp
      | ex x ρ5 =>
        cases h6
        exact fun C σ' Hf' H' e g' er' => k C σ' Hf' H' e (gb3.trans g') er'
    | false =>
      rw [if_neg Bool.false_ne_true] at h4
      cases h4
      exact iteF (k σ2 Hf3 H3 gb3 er3)
end

/-! ### defs -/
abbrev FD := List PyData → Option PyData
def spD (K : PySem.W.Frag) (n : Nat) (F : FD) : Sp := fun vs H Q _ => ∃ Hf ds d, Same Hf H ∧ DpAll K Hf vs ds ∧ ds.length = n ∧ F ds = some d ∧ ∀ v Hf' H', Gr Hf H Hf' H' → Dp K Hf' v d → Q v H'
def startR (n : Nat) (ds : List PyData) : Rho := ds.map Slot.d ++ List.replicate (n - ds.length) .und
def runD (n : Nat) (g : FS) : FD := fun ds => (g (startR n ds)).bind fun o => match o with
  | .rt d => some d
  | .nx _ => some .none
  | _ => none
theorem er_start {K : PySem.W.Frag} {Hf H : Hp} {N : List Str} {vs : List V} {ds : List PyData} (e : Same Hf H) (h : DpAll K Hf vs ds) : ER K H Hf H (L2.start N vs) (startR N.length ds) := by
  have hl := dpa_len h
  have noOwn : ∀ {i : Nat} {xs : List PyData}, (startR N.length ds)[i]? = some (.own xs) → False := fun {i xs} q => by
    unfold startR at q
    by_cases hi : i < ds.length
    · rw [List.getElem?_append_left (by simpa using hi), List.getElem?_map] at q
      obtain ⟨d, _, e2⟩ := Option.map_eq_some_iff.mp q
      cases e2
    · rw [List.getElem?_append_right (by simpa using hi), List.getElem?_replicate] at q
      split at q <;> cases q
  refine ⟨e, Same.refl _, ?_, fun i s o h1 h2 => ?_, fun i j xs ys p _ h1 _ _ _ => noOwn h1⟩
  · unfold L2.start startR
    rw [List.length_append, List.length_append, List.length_map, List.length_map, List.length_replicate, List.length_replicate, hl]
  · unfold startR at h1
    unfold L2.start at h2
    by_cases hi : i < ds.length
    · rw [List.getElem?_append_left (by simpa using hi), List.getElem?_map] at h1
      rw [List.getElem?_append_left (by simp; omega), List.getElem?_map] at h2
      obtain ⟨d, e1, rfl⟩ := Option.map_eq_some_iff.mp h1
      obtain ⟨v, e2, rfl⟩ := Option.map_eq_some_iff.mp h2
      obtain ⟨w, e3, hd⟩ := dpa_get h e1
      rw [e2] at e3
      cases e3
      exact ⟨v, rfl, hd⟩
    · rw [List.getElem?_append_right (by simpa using hi), List.getElem?_replicate] at h1
      split at h1
      · cases h1; trivial
      · cases h1
section
variable {P : Program} {w : World} {K : PySem.W.Frag} {mg : Str → Option Value} {base : Heap}
/-- THE RULE for a def that raises nothing -/
theorem def_ok {x qual : Str} {st : Stmt} {f : Addr} {fd : FuncData} {N ps : List Str} {k : Nat} {g : FS} (F : Fun K x qual st f fd) (S : FnScope N ps (defScope st))
    (hbody : ∀ (cdv : Value) (A : Around) (outer : List Env) (s : Shared) (H : Hp) (E : XK), Room k (A.deeper (envOfC qual (defScope st) s.heap.objs.size f cdv)) → DSs (cxOf CX0 P w K mg base N qual (defScope st) f cdv A outer s H E).nox (defBody st) g) :
    FnOk P w K mg base CX0 (k + 1) f fd ps (spD K ps.length (runD N.length g)) := by
  refine F.ok S (fun vs H Q E h => ?_) (fun cdv A outer s H vs Q E hr h => ?_)
  · obtain ⟨Hf, ds, d, e, hd, hl, _⟩ := h
    rw [dpa_len hd, hl]
  · obtain ⟨Hf, ds, d, e, hd, hl, hF, q⟩ := h
    refine ⟨_, hbody cdv A outer s H E hr, ?_⟩
    unfold runD at hF
    obtain ⟨o, h1, h2⟩ := Option.bind_eq_some_iff.mp hF
    have er : ER K H Hf H (L2.start N vs) (startR N.length ds) := er_start e hd
    refine ⟨H, Hf, _, o, er, h1, ?_⟩
    cases o with
    | rt d' =>
      cases h2
      exact fun v Hf' H' g' e1 e2 dp => q v Hf' H' ⟨g'.f, e2, e1, g'.un⟩ dp
    | nx ρ' =>
      cases h2
      exact fun σ' Hf' H' g' er' => q .non Hf' H' ⟨g'.f, er'.bh, er'.fh, g'.un⟩ .non
    | bk _ => cases h2
    | ct _ => cases h2
    | ex _ _ => cases h2
theorem spD_imp {CX : CXT} {k n : Nat} {f : Addr} {fd : FuncData} {ps : List Str} {F G : FD} (h : FnOk P w K mg base CX k f fd ps (spD K n F)) (e : ∀ ds d, ds.length = n → G ds = some d → F ds = some d) : FnOk P w K mg base CX k f fd ps (spD K n G) :=
  h.imp fun vs H Q E q => by
    obtain ⟨Hf, ds, d, h1, h2, h3, h4, h5⟩ := q
    exact ⟨Hf, ds, d, h1, h2, h3, e ds d h3 h4, h5⟩
end
section
variable {X : Cx} {e : Expr} {es : List Expr} {fs : FA} {pos p : Pos} {k n : Nat} {f : Addr} {fd : FuncData} {ps : List Str} {F : FD} {x : Str}
def fCall (F : FD) (fs : FA) : FE := fun ρ => (fs ρ).bind fun rs => (frs rs).bind fun ds => (F ds).map .fz
theorem ent_call {K : PySem.W.Frag} {E : XK} (hn : ∀ rs, (∃ ρ, fs ρ = some rs) → rs.length = n) : ∀ σ H Q, tD K (fCall F fs) σ H Q → tCall (spD K n F) [] E (tDA K fs) σ H Q := fun σ H Q h => by
  obtain ⟨B, Hf, ρ, r, er, hf, q⟩ := h
  unfold fCall at hf
  obtain ⟨rs, h1, h2⟩ := Option.bind_eq_some_iff.mp hf
  obtain ⟨ds, h3, h4⟩ := Option.bind_eq_some_iff.mp h2
  obtain ⟨d, h5, h6⟩ := Option.map_eq_some_iff.mp h4
  subst h6
  refine ⟨B, Hf, ρ, rs, er, h1, fun vs Hf' H' g' qq => ?_⟩
  obtain ⟨Hf2, g2, s2, d2⟩ := RRs.freeze er g' qq h3
  have hl : ds.length = n := by
    rw [← hn rs ⟨ρ, h1⟩]
    clear h5 qq d2 h1 h4 h2 hf
    induction rs generalizing ds with
    | nil => cases h3; rfl
    | cons r rs ih =>
      unfold frs at h3
      obtain ⟨x, e1, e2⟩ := Option.bind_eq_some_iff.mp h3
      obtain ⟨ys, e3, e4⟩ := Option.map_eq_some_iff.mp e2
      subst e4
      rw [List.length_cons, List.length_cons, ih ys e3]
  show spD K n F (vs ++ []) H' Q E
  rw [List.append_nil]
  exact ⟨Hf2, ds, d, g2.fh, d2, hl, h5, fun v Hf3 H3 g3 dp => q v Hf3 H3 (g2.trans g3) dp⟩
/-- the number of written arguments -/
def ALen (fs : FA) (n : Nat) : Prop := ∀ rs, (∃ ρ, fs ρ = some rs) → rs.length = n
theorem al_nil : ALen aNil 0 := fun rs h => by
  obtain ⟨ρ, e⟩ := h
  cases e; rfl
theorem al_cons {fa : FE} (h : ALen fs n) : ALen (aCons fa fs) (n + 1) := fun rs q => by
  obtain ⟨ρ, e⟩ := q
  unfold aCons at e
  obtain ⟨x, h1, h2⟩ := Option.bind_eq_some_iff.mp e
  obtain ⟨y, h3, h4⟩ := Option.map_eq_some_iff.mp h2
  subst h4
  rw [List.length_cons, h y ⟨ρ, h3⟩]
theorem d_call (G : FnOk X.prog X.w X.K X.mg X.base CX0 k f fd ps (spD X.K n F)) (hr : Room k X.A) (hm : X.mg x = some (.ref f)) (hk : PySem.W.keepIn X.K (.ref f) = true) (hb : Binds X.K fd ps []) (ha : DA X (e :: es) fs) (hn : ALen fs n)
    (hg : Gl X x := by rfl) (hdb : (x == ("__debug__" : Str)) = false := by decide) (he : starEach (e :: es) X.env = (false, eval e X.env) :: starEach es X.env := by rfl) (hpl : (backTo pos (starEach es X.env)).any (·.1) = false := by rfl) :
    DE X (.Call (.Name x p) (e :: es) [] pos) (fCall F fs) := pe_mono (pe_call G hr hg hm hk hb .nil pass0 ha hdb he hpl) (ent_call hn)
end
end DL
/-! the combinators, turned into plain terms -/
namespace DL
open PySem PySem.Spec PyProof.Rows L2
@[simp] theorem ite_bind {α β : Type} {p : Prop} [Decidable p] (x y : Option α) (f : α → Option β) : (if p then x else y).bind f = if p then x.bind f else y.bind f := by split <;> rfl
@[simp] theorem ite_map {α β : Type} {p : Prop} [Decidable p] (x y : Option α) (f : α → β) : (if p then x else y).map f = if p then x.map f else y.map f := by split <;> rfl
section
variable {ρ : Rho} {f fa fb fc : FE} {fs : FA} {g g1 g2 : FS} {t u : Rho → Option Bool} {i j : Int} {a b : PyData} {r : Res} {xs ys : List PyData} {n k : Nat}
@[simp] theorem rd_fz : (Res.fz a).rd = a := (rfl)
@[simp] theorem rd_nw : (Res.nw xs).rd = .list xs := (rfl)
@[simp] theorem rd_br : (Res.br xs).rd = .list xs := (rfl)
@[simp] theorem fr_fz : (Res.fz a).fr = some a := (rfl)
@[simp] theorem fr_nw : (Res.nw xs).fr = some (.list xs) := (rfl)
@[simp] theorem fr_br : (Res.br xs).fr = none := (rfl)
def rdS : Option Slot → Option Res
  | some (.d x) => some (.fz x)
  | some (.own xs) => some (.br xs)
  | _ => none
@[simp] theorem rdS_d : rdS (some (.d a)) = some (.fz a) := (rfl)
@[simp] theorem rdS_own : rdS (some (.own xs)) = some (.br xs) := (rfl)
@[simp] theorem fVar_eq : fVar n ρ = rdS ρ[n]? := by
  unfold fVar rdS
  cases h : ρ[n]? with
  | none => rfl
  | some s => cases s <;> rfl
@[simp] theorem fC_eq : fC a ρ = some (.fz a) := (rfl)
@[simp] theorem f2_eq {h : PyData → PyData → Option Res} : f2 h fa fb ρ = (fa ρ).bind fun x => (fb ρ).bind fun y => h x.rd y.rd := (rfl)
@[simp] theorem f1_eq {h : PyData → Option Res} : f1 h fa ρ = (fa ρ).bind fun x => h x.rd := (rfl)
def toB : PyData → Option Bool
  | .bool b => some b
  | _ => none
@[simp] theorem toB_b {b : Bool} : toB (.bool b) = some b := (rfl)
@[simp] theorem fB_eq : fB f ρ = (f ρ).bind fun r => toB r.rd := by
  unfold fB
  congr 1
@[simp] theorem fTru_eq : fTru f ρ = (f ρ).bind fun r => tru r.rd := (rfl)
@[simp] theorem tru_none : tru .none = some false := (rfl)
@[simp] theorem tru_bool {b : Bool} : tru (.bool b) = some b := (rfl)
@[simp] theorem tru_int : tru (.int i) = some (i != 0) := (rfl)
@[simp] theorem tru_list : tru (.list xs) = some (!xs.isEmpty) := (rfl)
@[simp] theorem tru_tuple : tru (.tuple xs) = some (!xs.isEmpty) := (rfl)
@[simp] theorem tNotF_eq : tNotF t ρ = (t ρ).map (!·) := (rfl)
@[simp] theorem tAndF_eq : tAndF t u ρ = (t ρ).bind fun a => if a = true then u ρ else some false := (rfl)
@[simp] theorem tOrF_eq : tOrF t u ρ = (t ρ).bind fun a => if a = true then some true else u ρ := (rfl)
@[simp] theorem fAnd_eq : fAnd fa fb ρ = (fa ρ).bind fun a => (tru a.rd).bind fun k => if k = true then fb ρ else some a := (rfl)
@[simp] theorem fOr_eq : fOr fa fb ρ = (fa ρ).bind fun a => (tru a.rd).bind fun k => if k = true then some a else fb ρ := (rfl)
@[simp] theorem fNot_eq : fNot fa ρ = (fa ρ).bind fun a => (tru a.rd).map fun k => .fz (.bool (!k)) := (rfl)
@[simp] theorem fIf_eq : fIf t fa fb ρ = (t ρ).bind fun k => if k = true then fa ρ else fb ρ := (rfl)
@[simp] theorem aNil_eq : aNil ρ = some [] := (rfl)
@[simp] theorem aCons_eq : aCons f fs ρ = (f ρ).bind fun r => (fs ρ).map fun rs => r :: rs := (rfl)
@[simp] theorem frs_nil : frs [] = some [] := (rfl)
@[simp] theorem frs_cons {rs : List Res} : frs (r :: rs) = r.fr.bind fun x => (frs rs).map fun xs => x :: xs := (rfl)
@[simp] theorem fTup_eq : fTup fs ρ = (fs ρ).bind fun rs => (frs rs).bind fun xs => if small xs.length then some (.fz (.tuple xs)) else none := (rfl)
@[simp] theorem fLst_eq : fLst fs ρ = (fs ρ).bind fun rs => (frs rs).bind fun xs => if small xs.length then some (.nw xs) else none := (rfl)
@[simp] theorem gAdd_int : gAdd (.int i) (.int j) = some (.fz (.int (i + j))) := (rfl)
@[simp] theorem gAdd_list : gAdd (.list xs) (.list ys) = if small (xs.length + ys.length) then some (.nw (xs ++ ys)) else none := (rfl)
@[simp] theorem gAdd_tuple : gAdd (.tuple xs) (.tuple ys) = if small (xs.length + ys.length) then some (.fz (.tuple (xs ++ ys))) else none := (rfl)
@[simp] theorem gMinus_int : gMinus (.int i) (.int j) = some (.fz (.int (i - j))) := (rfl)
@[simp] theorem gDiv_int : gDiv (.int i) (.int j) = if 0 < j ∧ j < 2 ^ 200 then some (.fz (.int (i / j))) else none := (rfl)
@[simp] theorem gMod_int : gMod (.int i) (.int j) = if 0 < j then some (.fz (.int (i % j))) else none := (rfl)
@[simp] theorem gPow_int : gPow (.int i) (.int j) = if 0 ≤ j ∧ j ≤ 1000000 ∧ i.natAbs < 2 ^ 64 then some (.fz (.int (i ^ j.toNat))) else none := (rfl)
@[simp] theorem gMul_int : gMul (.int i) (.int j) = if CMul i j then some (.fz (.int (i * j))) else none := (rfl)
@[simp] theorem gMul_tuple : gMul (.tuple xs) (.int j) = if xs ≠ [] ∧ 2 ≤ j ∧ j ≤ 1000 ∧ xs.length ≤ 1000 then some (.fz (.tuple (List.replicate j.toNat xs).flatten)) else none := (rfl)
@[simp] theorem gLt_int : gLt (.int i) (.int j) = some (.fz (.bool (decide (i < j)))) := (rfl)
@[simp] theorem gLe_int : gLe (.int i) (.int j) = some (.fz (.bool (decide (i ≤ j)))) := (rfl)
@[simp] theorem gGt_int : gGt (.int i) (.int j) = some (.fz (.bool (decide (j < i)))) := (rfl)
@[simp] theorem gGe_int : gGe (.int i) (.int j) = some (.fz (.bool (decide (j ≤ i)))) := (rfl)
@[simp] theorem gNeg_int : gNeg (.int i) = some (.fz (.int (-i))) := (rfl)
@[simp] theorem shaped_none : SeqAt.shaped .none = true := by simp [SeqAt.shaped, PyData.canLay0, PyData.depth]
@[simp] theorem shaped_bool {b : Bool} : SeqAt.shaped (.bool b) = true := by simp [SeqAt.shaped, PyData.canLay0, PyData.depth]
@[simp] theorem shaped_int : SeqAt.shaped (.int i) = true := by simp [SeqAt.shaped, PyData.canLay0, PyData.depth]
@[simp] theorem eqv_int : PyData.eqv (.int i) (.int j) = decide (i = j) := by
  rw [PyData.eqv]; exact Bool.beq_eq_decide_eq _ _
@[simp] theorem eqv_bool {b c : Bool} : PyData.eqv (.bool b) (.bool c) = decide (b = c) := by
  rw [PyData.eqv]; exact Bool.beq_eq_decide_eq _ _
@[simp] theorem eqv_none : PyData.eqv .none .none = true := by rw [PyData.eqv]
@[simp] theorem gEq_eq : gEq a b = if SeqAt.shaped a = true ∧ SeqAt.shaped b = true then some (.fz (.bool (PyData.eqv a b))) else none := (rfl)
@[simp] theorem gNe_eq : gNe a b = if SeqAt.shaped a = true ∧ SeqAt.shaped b = true then some (.fz (.bool (!PyData.eqv a b))) else none := (rfl)
@[simp] theorem gIs_none : gIs a .none = some (.fz (.bool (isNone a))) := by cases a <;> rfl
@[simp] theorem gIs_bool {x y : Bool} : gIs (.bool x) (.bool y) = some (.fz (.bool (decide (x = y)))) := (rfl)
@[simp] theorem gIsNot_none : gIsNot a .none = some (.fz (.bool (!isNone a))) := by cases a <;> rfl
@[simp] theorem gIsNot_bool {x y : Bool} : gIsNot (.bool x) (.bool y) = some (.fz (.bool (!decide (x = y)))) := (rfl)
@[simp] theorem isNone_none : isNone .none = true := (rfl)
@[simp] theorem isNone_int : isNone (.int i) = false := (rfl)
@[simp] theorem isNone_bool {x : Bool} : isNone (.bool x) = false := (rfl)
@[simp] theorem isNone_list : isNone (.list xs) = false := (rfl)
@[simp] theorem isNone_tuple : isNone (.tuple xs) = false := (rfl)
@[simp] theorem flatD_int : flatD (.int i) = true := (rfl)
@[simp] theorem gIn_list {ng : Bool} : gIn ng a (.list ys) = if flatD a = true ∧ ys.all flatD = true then some (.fz (.bool (if ng then !inD a ys else inD a ys))) else none := by cases a <;> rfl
@[simp] theorem gIn_tuple {ng : Bool} : gIn ng a (.tuple ys) = if flatD a = true ∧ ys.all flatD = true then some (.fz (.bool (if ng then !inD a ys else inD a ys))) else none := by cases a <;> rfl
@[simp] theorem gIx_list : gIx (.list xs) (.int i) = (atI xs i).map .fz := (rfl)
@[simp] theorem gIx_tuple : gIx (.tuple xs) (.int i) = (atI xs i).map .fz := (rfl)
@[simp] theorem oNone_eq : oNone ρ = some none := (rfl)
def toI : PyData → Option (Option Int)
  | .int i => some (some i)
  | _ => none
@[simp] theorem toI_i : toI (.int i) = some (some i) := (rfl)
@[simp] theorem oSome_eq : oSome f ρ = (f ρ).bind fun r => toI r.rd := by
  unfold oSome
  congr 1
@[simp] theorem fSl_eq {o1 o2 : Rho → Option (Option Int)} : fSl fa o1 o2 ρ = (fa ρ).bind fun a => (o1 ρ).bind fun lo => (o2 ρ).bind fun hi => gSl a.rd lo hi := (rfl)
@[simp] theorem gSl_list {lo hi : Option Int} : gSl (.list xs) lo hi = some (.nw (cutD xs lo hi)) := (rfl)
@[simp] theorem gSl_tuple {lo hi : Option Int} : gSl (.tuple xs) lo hi = some (.fz (.tuple (cutD xs lo hi))) := (rfl)
@[simp] theorem gRev_list : gRev (.list xs) = some (.nw xs.reverse) := (rfl)
@[simp] theorem gRev_tuple : gRev (.tuple xs) = some (.fz (.tuple xs.reverse)) := (rfl)
@[simp] theorem fC1_eq {h : List PyData → Option Res} : fC1 h fs ρ = (fs ρ).bind fun rs => h (rs.map Res.rd) := (rfl)
@[simp] theorem gLen_list : gLen [.list xs] = some (.fz (.int xs.length)) := (rfl)
@[simp] theorem gLen_tuple : gLen [.tuple xs] = some (.fz (.int xs.length)) := (rfl)
@[simp] theorem gAbs_int : gAbs [.int i] = some (.fz (.int (if i < 0 then -i else i))) := (rfl)
@[simp] theorem gInt_int : gInt [.int i] = some (.fz (.int i)) := (rfl)
@[simp] theorem gInt_bool {b : Bool} : gInt [.bool b] = some (.fz (.int (if b then 1 else 0))) := (rfl)
@[simp] theorem gTuple_list : gTuple [.list xs] = some (.fz (.tuple xs)) := (rfl)
@[simp] theorem gTuple_tuple : gTuple [.tuple xs] = some (.fz (.tuple xs)) := (rfl)
@[simp] theorem gList_list : gList [.list xs] = some (.nw xs) := (rfl)
@[simp] theorem gList_tuple : gList [.tuple xs] = some (.nw xs) := (rfl)
@[simp] theorem gSum_list : gSum [.list xs] = (intsOf xs).map fun ns => .fz (.int ns.sum) := (rfl)
@[simp] theorem gAll_list : gAll [.list xs] = (boolsOf xs).map fun ns => .fz (.bool (ns.all id)) := (rfl)
@[simp] theorem gAny_list : gAny [.list xs] = (boolsOf xs).map fun ns => .fz (.bool (ns.any id)) := (rfl)
@[simp] theorem gMin_list : gMin [.list xs] = (intsOf xs).bind fun ns => if ns = [] then none else some (.fz (.int (minL ns))) := (rfl)
@[simp] theorem gMax_list : gMax [.list xs] = (intsOf xs).bind fun ns => if ns = [] then none else some (.fz (.int (maxL ns))) := (rfl)
@[simp] theorem gMin_two : gMin [.int i, .int j] = some (.fz (.int (if j < i then j else i))) := (rfl)
@[simp] theorem gMax_two : gMax [.int i, .int j] = some (.fz (.int (if j > i then j else i))) := (rfl)
@[simp] theorem intsOf_m {ns : List Int} : intsOf (ns.map PyData.int) = some ns := intsOf_map ns
@[simp] theorem boolsOf_m {ns : List Bool} : boolsOf (ns.map PyData.bool) = some ns := boolsOf_map ns
theorem kit_ii : kitB "int" "int" = some true := by decide +kernel
theorem kit_bi : kitB "bool" "int" = some true := by decide +kernel
theorem kit_ni : kitB "NoneType" "int" = some false := by decide +kernel
theorem kit_li : kitB "list" "int" = some false := by decide +kernel
theorem kit_ti : kitB "tuple" "int" = some false := by decide +kernel
theorem kit_ib : kitB "int" "bool" = some false := by decide +kernel
theorem kit_bb : kitB "bool" "bool" = some true := by decide +kernel
theorem kit_nb : kitB "NoneType" "bool" = some false := by decide +kernel
theorem kit_lb : kitB "list" "bool" = some false := by decide +kernel
theorem kit_tb : kitB "tuple" "bool" = some false := by decide +kernel
theorem kit_it : kitB "int" "tuple" = some false := by decide +kernel
theorem kit_bt : kitB "bool" "tuple" = some false := by decide +kernel
theorem kit_nt : kitB "NoneType" "tuple" = some false := by decide +kernel
theorem kit_lt : kitB "list" "tuple" = some false := by decide +kernel
theorem kit_tt : kitB "tuple" "tuple" = some true := by decide +kernel
theorem kit_il : kitB "int" "list" = some false := by decide +kernel
theorem kit_bl : kitB "bool" "list" = some false := by decide +kernel
theorem kit_nl : kitB "NoneType" "list" = some false := by decide +kernel
theorem kit_ll : kitB "list" "list" = some true := by decide +kernel
theorem kit_tl : kitB "tuple" "list" = some false := by decide +kernel
def isI : PyData → Bool | .int _ => true | .bool _ => true | _ => false
def isB : PyData → Bool | .bool _ => true | _ => false
def isT : PyData → Bool | .tuple _ => true | _ => false
def isL : PyData → Bool | .list _ => true | _ => false
/-- plain data of the kinds met here -/
def okD : PyData → Bool | .str _ => false | .dict _ => false | _ => true
theorem gIsi_int (h : okD a = true) : gIsi "int" a = some (.fz (.bool (isI a))) := by
  cases a <;> first
    | (exact absurd h Bool.false_ne_true)
    | (unfold gIsi kindS; simp only [kit_ii, kit_bi, kit_ni, kit_li, kit_ti]; rfl)
theorem gIsi_bool (h : okD a = true) : gIsi "bool" a = some (.fz (.bool (isB a))) := by
  cases a <;> first
    | (exact absurd h Bool.false_ne_true)
    | (unfold gIsi kindS; simp only [kit_ib, kit_bb, kit_nb, kit_lb, kit_tb]; rfl)
theorem gIsi_tuple (h : okD a = true) : gIsi "tuple" a = some (.fz (.bool (isT a))) := by
  cases a <;> first
    | (exact absurd h Bool.false_ne_true)
    | (unfold gIsi kindS; simp only [kit_it, kit_bt, kit_nt, kit_lt, kit_tt]; rfl)
theorem gIsi_list (h : okD a = true) : gIsi "list" a = some (.fz (.bool (isL a))) := by
  cases a <;> first
    | (exact absurd h Bool.false_ne_true)
    | (unfold gIsi kindS; simp only [kit_il, kit_bl, kit_nl, kit_ll, kit_tl]; rfl)
@[simp] theorem isi_ii : gIsi "int" (.int i) = some (.fz (.bool true)) := gIsi_int rfl
@[simp] theorem isi_bi {b : Bool} : gIsi "int" (.bool b) = some (.fz (.bool true)) := gIsi_int rfl
@[simp] theorem isi_ni : gIsi "int" .none = some (.fz (.bool false)) := gIsi_int rfl
@[simp] theorem isi_li : gIsi "int" (.list xs) = some (.fz (.bool false)) := gIsi_int rfl
@[simp] theorem isi_ti : gIsi "int" (.tuple xs) = some (.fz (.bool false)) := gIsi_int rfl
@[simp] theorem isi_ib : gIsi "bool" (.int i) = some (.fz (.bool false)) := gIsi_bool rfl
@[simp] theorem isi_bb {b : Bool} : gIsi "bool" (.bool b) = some (.fz (.bool true)) := gIsi_bool rfl
@[simp] theorem isi_nb : gIsi "bool" .none = some (.fz (.bool false)) := gIsi_bool rfl
@[simp] theorem isi_lb : gIsi "bool" (.list xs) = some (.fz (.bool false)) := gIsi_bool rfl
@[simp] theorem isi_tb : gIsi "bool" (.tuple xs) = some (.fz (.bool false)) := gIsi_bool rfl
@[simp] theorem isi_it : gIsi "tuple" (.int i) = some (.fz (.bool false)) := gIsi_tuple rfl
@[simp] theorem isi_bt {b : Bool} : gIsi "tuple" (.bool b) = some (.fz (.bool false)) := gIsi_tuple rfl
@[simp] theorem isi_nt : gIsi "tuple" .none = some (.fz (.bool false)) := gIsi_tuple rfl
@[simp] theorem isi_lt : gIsi "tuple" (.list xs) = some (.fz (.bool false)) := gIsi_tuple rfl
@[simp] theorem isi_tt : gIsi "tuple" (.tuple xs) = some (.fz (.bool true)) := gIsi_tuple rfl
@[simp] theorem isi_il : gIsi "list" (.int i) = some (.fz (.bool false)) := gIsi_list rfl
@[simp] theorem isi_bl {b : Bool} : gIsi "list" (.bool b) = some (.fz (.bool false)) := gIsi_list rfl
@[simp] theorem isi_nl : gIsi "list" .none = some (.fz (.bool false)) := gIsi_list rfl
@[simp] theorem isi_ll : gIsi "list" (.list xs) = some (.fz (.bool true)) := gIsi_list rfl
@[simp] theorem isi_tl : gIsi "list" (.tuple xs) = some (.fz (.bool false)) := gIsi_list rfl
def itS : Res → Option (List PyData)
  | .fz (.list xs) => some xs
  | .fz (.tuple xs) => some xs
  | .nw xs => some xs
  | _ => none
@[simp] theorem itS_l : itS (.fz (.list xs)) = some xs := (rfl)
@[simp] theorem itS_t : itS (.fz (.tuple xs)) = some xs := (rfl)
@[simp] theorem itS_n : itS (.nw xs) = some xs := (rfl)
@[simp] theorem itF_eq : itF f ρ = (f ρ).bind itS := by
  unfold itF
  congr 1
def itQ : PyData → Option (List PyData)
  | .list xs => some xs
  | .tuple xs => some xs
  | _ => none
@[simp] theorem itQ_l : itQ (.list xs) = some xs := (rfl)
@[simp] theorem itQ_t : itQ (.tuple xs) = some xs := (rfl)
@[simp] theorem itR_eq : itR f ρ = (f ρ).bind fun r => itQ r.rd := by
  unfold itR
  congr 1
def rgS : List PyData → Option (List PyData)
  | [.int j] => if -(2 ^ 62) ≤ j ∧ j < 2 ^ 62 then some (rgD 0 j.toNat) else none
  | [.int i, .int j] => if -(2 ^ 62) ≤ i ∧ i < 2 ^ 62 ∧ -(2 ^ 62) ≤ j ∧ j < 2 ^ 62 then some (rgD i (j - i).toNat) else none
  | _ => none
theorem rgS_1 : rgS [.int j] = if -(2 ^ 62) ≤ j ∧ j < 2 ^ 62 then some (rgD 0 j.toNat) else none := rfl
theorem rgS_2 : rgS [.int i, .int j] = if -(2 ^ 62) ≤ i ∧ i < 2 ^ 62 ∧ -(2 ^ 62) ≤ j ∧ j < 2 ^ 62 then some (rgD i (j - i).toNat) else none := rfl
def rg1S : List PyData → Option (List PyData)
  | [.int j] => if -(2 ^ 62) ≤ j ∧ j < 2 ^ 62 then some (rgD 0 j.toNat) else none
  | _ => none
def rg2S : List PyData → Option (List PyData)
  | [.int i, .int j] => if -(2 ^ 62) ≤ i ∧ i < 2 ^ 62 ∧ -(2 ^ 62) ≤ j ∧ j < 2 ^ 62 then some (rgD i (j - i).toNat) else none
  | _ => none
theorem rg1S_1 : rg1S [.int j] = if -(2 ^ 62) ≤ j ∧ j < 2 ^ 62 then some (rgD 0 j.toNat) else none := rfl
theorem rg2S_2 : rg2S [.int i, .int j] = if -(2 ^ 62) ≤ i ∧ i < 2 ^ 62 ∧ -(2 ^ 62) ≤ j ∧ j < 2 ^ 62 then some (rgD i (j - i).toNat) else none := rfl
theorem rg1_ok (h : 0 ≤ j) (h2 : j ≤ 1000000) : rg1S [.int j] = some (rgD 0 j.toNat) := by
  rw [rg1S_1, if_pos ⟨by omega, by omega⟩]
theorem rg1_nat {m : Nat} (h2 : m ≤ 1000000) : rg1S [.int (m : Int)] = some (rgD 0 m) := by
  rw [rg1_ok (by omega) (by omega), Int.toNat_natCast]
theorem rg2_ok (h : 0 ≤ i) (h2 : i ≤ 1000000) (h3 : 0 ≤ j) (h4 : j ≤ 1000000) : rg2S [.int i, .int j] = some (rgD i (j - i).toNat) := by
  rw [rg2S_2, if_pos ⟨by omega, by omega, by omega, by omega⟩]
@[simp] theorem rg1_eq : rg1 fs ρ = (fs ρ).bind fun rs => rg1S (rs.map Res.rd) := by
  unfold rg1
  congr 1
@[simp] theorem rg2_eq : rg2 fs ρ = (fs ρ).bind fun rs => rg2S (rs.map Res.rd) := by
  unfold rg2
  congr 1
def enS : List Res → Option (List PyData)
  | [.fz (.list xs)] => some (enD 0 xs)
  | [.nw xs] => some (enD 0 xs)
  | _ => none
@[simp] theorem enS_l : enS [.fz (.list xs)] = some (enD 0 xs) := (rfl)
@[simp] theorem enS_n : enS [.nw xs] = some (enD 0 xs) := (rfl)
@[simp] theorem enF_eq : enF fs ρ = (fs ρ).bind enS := by
  unfold enF
  congr 1
@[simp] theorem uName_eq : uName n a ρ = some (ρ.set n (.d a)) := (rfl)
@[simp] theorem uNil_eq : uNil [] ρ = some ρ := (rfl)
@[simp] theorem uCons_eq {us : FUs} {u : FU} : uCons u us (a :: xs) ρ = (u a ρ).bind fun ρ1 => us xs ρ1 := (rfl)
@[simp] theorem uTup_t {us : FUs} : uTup n us (.tuple xs) ρ = if xs.length = n then us xs ρ else none := (rfl)
@[simp] theorem uTup_l {us : FUs} : uTup n us (.list xs) ρ = if xs.length = n then us xs ρ else none := (rfl)
@[simp] theorem cYes_eq : cYes ρ = some true := (rfl)
@[simp] theorem gNil_eq : gNil ρ = some (.nx ρ) := (rfl)
def thn' (g : FS) : Out → Option Out
  | .nx ρ' => g ρ'
  | o => some o
@[simp] theorem thn_nx : thn' g (.nx ρ) = g ρ := (rfl)
@[simp] theorem thn_rt : thn' g (.rt a) = some (.rt a) := (rfl)
@[simp] theorem thn_bk : thn' g (.bk ρ) = some (.bk ρ) := (rfl)
@[simp] theorem thn_ex {x : Str} : thn' g (.ex x ρ) = some (.ex x ρ) := (rfl)
@[simp] theorem thn_ct : thn' g (.ct ρ) = some (.ct ρ) := (rfl)
@[simp] theorem gSeq_eq : gSeq g1 g2 ρ = (g1 ρ).bind (thn' g2) := by
  unfold gSeq
  congr 1
@[simp] theorem gBk_eq : gBk ρ = some (.bk ρ) := (rfl)
@[simp] theorem gCt_eq : gCt ρ = some (.ct ρ) := (rfl)
@[simp] theorem gRet_eq : gRet f ρ = (f ρ).map fun r => .rt r.rd := (rfl)
@[simp] theorem gRetN_eq : gRetN ρ = some (.rt .none) := (rfl)
@[simp] theorem gIf_eq : gIf t g1 g2 ρ = (t ρ).bind fun b => if b = true then g1 ρ else g2 ρ := (rfl)
@[simp] theorem gDrop_eq : gDrop f ρ = (f ρ).map fun _ => .nx ρ := (rfl)
@[simp] theorem gSet_eq : gSet n f ρ = (f ρ).bind fun r => r.fr.map fun d => .nx (ρ.set n (.d d)) := (rfl)
def ownS : Res → Option Slot
  | .nw xs => some (.own xs)
  | .fz d => some (.d d)
  | .br _ => none
@[simp] theorem ownS_n : ownS (.nw xs) = some (.own xs) := (rfl)
@[simp] theorem ownS_f : ownS (.fz a) = some (.d a) := (rfl)
@[simp] theorem gSetO_eq : gSetO n f ρ = (f ρ).bind fun r => (ownS r).map fun s => .nx (ρ.set n s) := by
  unfold gSetO
  congr 1
  funext r
  cases r <;> rfl
@[simp] theorem gAsg_eq {u : FU} : gAsg u f ρ = (f ρ).bind fun r => r.fr.bind fun d => (u d ρ).map .nx := (rfl)
def parS (n k : Nat) (ρ : Rho) : List PyData → Option Out
  | [x, y] => some (.nx ((ρ.set n (.d x)).set k (.d y)))
  | _ => none
@[simp] theorem parS_2 : parS n k ρ [a, b] = some (.nx ((ρ.set n (.d a)).set k (.d b))) := (rfl)
@[simp] theorem gPar_eq : gPar n k fs ρ = (fs ρ).bind fun rs => (frs rs).bind (parS n k ρ) := by
  unfold gPar
  congr 1
def augS : Option Slot → Option PyData
  | some (.d x) => some x
  | _ => none
@[simp] theorem augS_d : augS (some (.d a)) = some a := (rfl)
@[simp] theorem gAug_eq {h : PyData → PyData → Option PyData} : gAug n h f ρ = (augS ρ[n]?).bind fun x => (f ρ).bind fun r => (h x r.rd).map fun d => .nx (ρ.set n (.d d)) := by
  unfold gAug augS
  cases hs : ρ[n]? with
  | none => rfl
  | some s => cases s <;> rfl
@[simp] theorem hAdd_int : hAdd (.int i) (.int j) = some (.int (i + j)) := (rfl)
@[simp] theorem hSub_int : hSub (.int i) (.int j) = some (.int (i - j)) := (rfl)
def ownL : Option Slot → Option (List PyData)
  | some (.own xs) => some xs
  | _ => none
@[simp] theorem ownL_o : ownL (some (.own xs)) = some xs := (rfl)
@[simp] theorem gApp_eq : gApp n f ρ = (ownL ρ[n]?).bind fun xs => (f ρ).bind fun r => r.fr.bind fun d => if small xs.length then some (.nx (ρ.set n (.own (xs ++ [d])))) else none := by
  unfold gApp ownL
  cases hs : ρ[n]? with
  | none => rfl
  | some s => cases s <;> rfl
def putS (n : Nat) (ρ : Rho) (d : PyData) : PyData → Option Out
  | .int m => (ownL ρ[n]?).bind fun xs => (ixN xs.length m).map fun q => .nx (ρ.set n (.own (xs.set q d)))
  | _ => none
@[simp] theorem putS_i : putS n ρ a (.int j) = (ownL ρ[n]?).bind fun xs => (ixN xs.length j).map fun q => .nx (ρ.set n (.own (xs.set q a))) := (rfl)
@[simp] theorem gPut_eq : gPut n fb f ρ = (f ρ).bind fun r => r.fr.bind fun d => (fb ρ).bind fun j => putS n ρ d j.rd := by
  unfold gPut
  congr 1
  funext r
  congr 1
  funext d
  congr 1
  funext j
  unfold putS ownL
  cases hs : ρ[n]? with
  | none => cases j.rd <;> rfl
  | some s => cases s <;> cases j.rd <;> rfl
def endS : Out → Option PyData
  | .rt d => some d
  | .nx _ => some .none
  | _ => none
@[simp] theorem endS_r : endS (.rt a) = some a := (rfl)
@[simp] theorem endS_n : endS (.nx ρ) = some .none := (rfl)
theorem runD_eq : runD n g xs = (g (startR n xs)).bind endS := by
  unfold runD
  congr 1
@[simp] theorem startR_eq : startR n xs = xs.map Slot.d ++ List.replicate (n - xs.length) .und := (rfl)
@[simp] theorem fCall_eq {F : FD} : fCall F fs ρ = (fs ρ).bind fun rs => (frs rs).bind fun ds => (F ds).map .fz := (rfl)
@[simp] theorem gFor_eq {it : Rho → Option (List PyData)} {u : FU} : gFor it u g ρ = (it ρ).bind fun xs => forD u g xs ρ := (rfl)
@[simp] theorem fLc_eq {it : Rho → Option (List PyData)} {vs : List Nat} : fLc it n t f vs ρ = (it ρ).bind fun xs => if small xs.length then (lcD n t f (wipeR ρ vs) xs).map fun ds => .nw ds else none := (rfl)
@[simp] theorem wipeR_nil : wipeR ρ [] = ρ := (rfl)
@[simp] theorem wipeR_cons {vs : List Nat} : wipeR ρ (n :: vs) = (wipeR ρ vs).set n .und := (rfl)
/-- a comprehension, item by item -/
def flG (c : PyData → Bool) (h : PyData → PyData) (xs : List PyData) : List PyData := (xs.filter c).map h
theorem lcD_map {c : PyData → Bool} {h : PyData → PyData} : ∀ {xs : List PyData}, (∀ x ∈ xs, t (ρ.set n (.d x)) = some (c x)) → (∀ x ∈ xs, c x = true → (f (ρ.set n (.d x))).bind Res.fr = some (h x)) → lcD n t f ρ xs = some ((xs.filter c).map h)
  | [], _, _ => rfl
  | x :: xs, h1, h2 => by
    have ih := lcD_map (xs := xs) (fun y hy => h1 y (List.mem_cons_of_mem _ hy)) (fun y hy => h2 y (List.mem_cons_of_mem _ hy))
    unfold lcD
    rw [h1 x List.mem_cons_self, Option.bind_some]
    cases hc : c x with
    | true =>
      have q := h2 x List.mem_cons_self hc
      obtain ⟨r, e1, e2⟩ := Option.bind_eq_some_iff.mp q
      rw [if_pos rfl, e1, Option.bind_some, e2, Option.bind_some, ih, List.filter_cons, if_pos hc]
      rfl
    | false =>
      rw [if_neg Bool.false_ne_true, ih, List.filter_cons, if_neg (by rw [hc]; exact Bool.false_ne_true)]
end
/-! ### the law's own end -/
def spLaw (K : PySem.W.Frag) : Sp := fun vs H Q _ => ∃ (a : Addr) (ns : List Int), vs = [.ref a] ∧ SqL K H a (ns.map V.int) ∧ ns.length ≤ 63 ∧ ∀ H', Q (.bl true) H'
theorem law_of {P : Program} {w : World} {K : PySem.W.Frag} {mg : Str → Option Value} {base : Heap} {CX : CXT} {k : Nat} {f : Addr} {fd : FuncData} {F : FD} (h : FnOk P w K mg base CX k f fd ["script"] (spD K 1 F))
    (e : ∀ ns : List Int, ns.length ≤ 63 → F [.list (ns.map PyData.int)] = some (.bool true)) : FnOk P w K mg base CX k f fd ["script"] (spLaw K) :=
  h.imp fun vs H Q E q => by
    obtain ⟨a, ns, rfl, hS, hl, k⟩ := q
    refine ⟨H, [.list (ns.map PyData.int)], .bool true, Same.refl _, .cons (.lst hS (dpa_ints ns)) .nil, rfl, e ns hl, fun v Hf' H' g d => ?_⟩
    cases d
    exact k H'
/-- a def that is never asked -/
theorem fn_none {P : Program} {w : World} {K : PySem.W.Frag} {mg : Str → Option Value} {base : Heap} {CX : CXT} {k n : Nat} {f : Addr} {fd : FuncData} {ps : List Str} : FnOk P w K mg base CX k f fd ps (spD K n (fun _ => none)) :=
  have no : ∀ vs H Q E, ¬ spD K n (fun _ => none) vs H Q E := fun vs H Q E h => by
    obtain ⟨_, _, _, _, _, _, h4, _⟩ := h
    cases h4
  ⟨fun vs H Q E h => absurd h (no vs H Q E), fun A outer s H args us vs Q E _ _ _ _ h => absurd h (no vs H Q E)⟩
/-- a word of ints as data -/
abbrev wd (ws : List Int) : PyData := .tuple (ws.map PyData.int)
end DL
namespace DL
open PySem PySem.Spec PyProof.Rows L2
section
variable {ρ : Rho} {g : FS} {u : FU} {t : Rho → Option Bool}
/-- a loop that goes through -/
theorem forD_inv {xs : List PyData} (P : Nat → Rho → Prop) (h0 : P 0 ρ) (hs : ∀ i x ρ, xs[i]? = some x → P i ρ → ∃ ρ1 ρ2, u x ρ = some ρ1 ∧ (g ρ1 = some (.nx ρ2) ∨ g ρ1 = some (.ct ρ2)) ∧ P (i + 1) ρ2) :
    ∃ ρ', forD u g xs ρ = some (.nx ρ') ∧ P xs.length ρ' := by
  induction xs generalizing ρ P with
  | nil => exact ⟨ρ, rfl, h0⟩
  | cons x xs ih =>
    obtain ⟨ρ1, ρ2, e1, e2, p⟩ := hs 0 x ρ rfl h0
    obtain ⟨ρ', e3, p'⟩ := ih (fun i => P (i + 1)) p fun i y ρ0 hy hp => hs (i + 1) y ρ0 (by simpa using hy) hp
    refine ⟨ρ', ?_, p'⟩
    unfold forD
    rw [e1, Option.bind_some]
    rcases e2 with e2 | e2 <;> rw [e2, Option.bind_some] <;> exact e3
/-- a loop that goes through or returns -/
theorem forD_inv' {xs : List PyData} (P : Nat → Rho → Prop) (R : PyData → Prop) (h0 : P 0 ρ) (hs : ∀ i x ρ, xs[i]? = some x → P i ρ → ∃ ρ1, u x ρ = some ρ1 ∧ ((∃ ρ2, (g ρ1 = some (.nx ρ2) ∨ g ρ1 = some (.ct ρ2)) ∧ P (i + 1) ρ2) ∨ ∃ d, g ρ1 = some (.rt d) ∧ R d)) :
    (∃ ρ', forD u g xs ρ = some (.nx ρ') ∧ P xs.length ρ') ∨ ∃ d, forD u g xs ρ = some (.rt d) ∧ R d := by
  induction xs generalizing ρ P with
  | nil => exact .inl ⟨ρ, rfl, h0⟩
  | cons x xs ih =>
    obtain ⟨ρ1, e1, h⟩ := hs 0 x ρ rfl h0
    rcases h with ⟨ρ2, e2, p⟩ | ⟨d, e2, p⟩
    · rcases ih (fun i => P (i + 1)) p fun i y ρ0 hy hp => hs (i + 1) y ρ0 (by simpa using hy) hp with ⟨ρ', e3, p'⟩ | ⟨d, e3, p'⟩
      · refine .inl ⟨ρ', ?_, p'⟩
        unfold forD
        rw [e1, Option.bind_some]
        rcases e2 with e2 | e2 <;> rw [e2, Option.bind_some] <;> exact e3
      · refine .inr ⟨d, ?_, p'⟩
        unfold forD
        rw [e1, Option.bind_some]
        rcases e2 with e2 | e2 <;> rw [e2, Option.bind_some] <;> exact e3
    · refine .inr ⟨d, ?_, p⟩
      unfold forD
      rw [e1, Option.bind_some, e2]
      rfl
theorem forD_then {β : Type} {xs : List PyData} {k : Out → Option β} {r : Option β} (P : Nat → Rho → Prop) (h0 : P 0 ρ) (hs : ∀ i x ρ, xs[i]? = some x → P i ρ → ∃ ρ1 ρ2, u x ρ = some ρ1 ∧ (g ρ1 = some (.nx ρ2) ∨ g ρ1 = some (.ct ρ2)) ∧ P (i + 1) ρ2)
    (hk : ∀ ρ', P xs.length ρ' → k (.nx ρ') = r) : (forD u g xs ρ).bind k = r := by
  obtain ⟨ρ', e, p⟩ := forD_inv P h0 hs
  rw [e]
  exact hk ρ' p
theorem forD_then' {β : Type} {xs : List PyData} {k : Out → Option β} {r : Option β} (P : Nat → Rho → Prop) (R : PyData → Prop) (h0 : P 0 ρ) (hs : ∀ i x ρ, xs[i]? = some x → P i ρ → ∃ ρ1, u x ρ = some ρ1 ∧ ((∃ ρ2, (g ρ1 = some (.nx ρ2) ∨ g ρ1 = some (.ct ρ2)) ∧ P (i + 1) ρ2) ∨ ∃ d, g ρ1 = some (.rt d) ∧ R d))
    (hk : ∀ ρ', P xs.length ρ' → k (.nx ρ') = r) (hr : ∀ d, R d → k (.rt d) = r) : (forD u g xs ρ).bind k = r := by
  rcases forD_inv' P R h0 hs with ⟨ρ', e, p⟩ | ⟨d, e, p⟩
  · rw [e]; exact hk ρ' p
  · rw [e]; exact hr d p
/-- a turn goes on (P) or returns (R) -/
def Goes (P : Rho → Prop) (R : PyData → Prop) : Option Out → Prop
  | some (.nx ρ) => P ρ
  | some (.ct ρ) => P ρ
  | some (.rt d) => R d
  | _ => False
@[simp] theorem goes_nx {P : Rho → Prop} {R : PyData → Prop} : Goes P R (some (.nx ρ)) = P ρ := (rfl)
@[simp] theorem goes_ct {P : Rho → Prop} {R : PyData → Prop} : Goes P R (some (.ct ρ)) = P ρ := (rfl)
@[simp] theorem goes_rt {P : Rho → Prop} {R : PyData → Prop} {d : PyData} : Goes P R (some (.rt d)) = R d := (rfl)
theorem forD_go {β : Type} {xs : List PyData} {k : Out → Option β} {r : Option β} (P : Nat → Rho → Prop) (R : PyData → Prop) (h0 : P 0 ρ) (hs : ∀ i x ρ, xs[i]? = some x → P i ρ → Goes (P (i + 1)) R ((u x ρ).bind g))
    (hk : ∀ ρ', P xs.length ρ' → k (.nx ρ') = r) (hr : ∀ d, R d → k (.rt d) = r) : (forD u g xs ρ).bind k = r := by
  refine forD_then' P R h0 (fun i x ρ hx hp => ?_) hk hr
  have q := hs i x ρ hx hp
  cases h1 : u x ρ with
  | none => rw [h1] at q; exact q.elim
  | some ρ1 =>
    rw [h1, Option.bind_some] at q
    refine ⟨ρ1, rfl, ?_⟩
    cases h2 : g ρ1 with
    | none => rw [h2] at q; exact q.elim
    | some o =>
      rw [h2] at q
      cases o with
      | nx ρ2 => exact .inl ⟨ρ2, .inl rfl, q⟩
      | ct ρ2 => exact .inl ⟨ρ2, .inr rfl, q⟩
      | rt d => exact .inr ⟨d, rfl, q⟩
      | bk ρ2 => exact q.elim
      | ex x ρ2 => exact q.elim
/-- a loop that only goes through -/
theorem forD_all {β : Type} {xs : List PyData} {k : Out → Option β} {r : Option β} (P : Nat → Rho → Prop) (h0 : P 0 ρ) (hs : ∀ i x ρ, xs[i]? = some x → P i ρ → Goes (P (i + 1)) (fun _ => False) ((u x ρ).bind g))
    (hk : ∀ ρ', P xs.length ρ' → k (.nx ρ') = r) : (forD u g xs ρ).bind k = r := forD_go P (fun _ => False) h0 hs hk fun _ h => h.elim
theorem goes_seq {P : Rho → Prop} {R : PyData → Prop} {g1 g2 : FS} (S : Rho → Prop) (h1 : ∃ ρ', g1 ρ = some (.nx ρ') ∧ S ρ') (h2 : ∀ ρ', S ρ' → Goes P R (g2 ρ')) : Goes P R (gSeq g1 g2 ρ) := by
  obtain ⟨ρ', e, s⟩ := h1
  rw [gSeq_eq, e, Option.bind_some, thn_nx]
  exact h2 ρ' s
theorem goes_at {P : Rho → Prop} {R : PyData → Prop} {ρ1 : Rho} {x : Option Rho} (e : x = some ρ1) (h : Goes P R (g ρ1)) : Goes P R (x.bind g) := by
  rw [e]
  exact h
theorem goes_one {P : Rho → Prop} {R : PyData → Prop} (h : ∃ ρ', g ρ = some (.nx ρ') ∧ P ρ') : Goes P R (g ρ) := by
  obtain ⟨ρ', e, s⟩ := h
  rw [e]
  exact s
/-- a loop that only goes through, and something behind it that is -/
theorem forD_ex {β : Type} {xs : List PyData} {k : Out → Option β} {Q : β → Prop} (P : Nat → Rho → Prop) (h0 : P 0 ρ) (hs : ∀ i x ρ, xs[i]? = some x → P i ρ → Goes (P (i + 1)) (fun _ => False) ((u x ρ).bind g))
    (hk : ∀ ρ', P xs.length ρ' → ∃ r, k (.nx ρ') = some r ∧ Q r) : ∃ r, (forD u g xs ρ).bind k = some r ∧ Q r := by
  obtain ⟨ρ', e, p⟩ : ∃ ρ', forD u g xs ρ = some (.nx ρ') ∧ P xs.length ρ' := by
    refine forD_inv P h0 fun i x ρ hx hp => ?_
    have q := hs i x ρ hx hp
    cases h1 : u x ρ with
    | none => rw [h1] at q; exact q.elim
    | some ρ1 =>
      rw [h1, Option.bind_some] at q
      cases h2 : g ρ1 with
      | none => rw [h2] at q; exact q.elim
      | some o =>
        rw [h2] at q
        cases o with
        | nx ρ2 => exact ⟨ρ1, ρ2, rfl, .inl h2, q⟩
        | ct ρ2 => exact ⟨ρ1, ρ2, rfl, .inr h2, q⟩
        | rt d => exact q.elim
        | bk ρ2 => exact q.elim
        | ex x ρ2 => exact q.elim
  rw [e]
  exact hk ρ' p
theorem rgD_get {lo : Int} {n i : Nat} {x : PyData} (h : (rgD lo n)[i]? = some x) : i < n ∧ x = .int (lo + (i : Int)) := by
  have hi : i < n := by
    have := (List.getElem?_eq_some_iff.mp h).1
    rw [rgD_len] at this
    exact this
  refine ⟨hi, ?_⟩
  unfold rgD at h
  rw [List.getElem?_map, List.getElem?_range hi] at h
  exact (Option.some.inj h).symm
theorem rgD0 (n : Nat) : rgD 0 n = (List.range n).map fun i : Nat => PyData.int (i : Int) := by
  unfold rgD
  congr 1
  funext i
  rw [Int.zero_add]
theorem at_pos {α : Type} {xs : List α} {i : Int} (h : 0 ≤ i) : atI xs i = xs[i.toNat]? := by
  unfold atI ixN
  rw [if_pos h]
  split
  · rfl
  · rw [List.getElem?_eq_none (by omega)]
    rfl
theorem map_get {α β : Type} {f : α → β} {l : List α} {i : Nat} {x : β} (h : (l.map f)[i]? = some x) : ∃ a, l[i]? = some a ∧ x = f a := by
  rw [List.getElem?_map] at h
  obtain ⟨a, h1, h2⟩ := Option.map_eq_some_iff.mp h
  exact ⟨a, h1, h2.symm⟩
end
/-- comprehensions over data that stand for things of a type -/
theorem lcD_gen {α β : Type} {e : α → PyData} {e' : β → PyData} {ρ : Rho} {n : Nat} {t : Rho → Option Bool} {f : FE} (c : α → Bool) (h : α → β) : ∀ {l : List α}, (∀ x ∈ l, t (ρ.set n (.d (e x))) = some (c x)) → (∀ x ∈ l, c x = true → (f (ρ.set n (.d (e x)))).bind Res.fr = some (e' (h x))) → lcD n t f ρ (l.map e) = some (((l.filter c).map h).map e')
  | [], _, _ => rfl
  | x :: xs, h1, h2 => by
    have ih := lcD_gen (e := e) (e' := e') (ρ := ρ) (n := n) (t := t) (f := f) c h (l := xs) (fun y hy => h1 y (List.mem_cons_of_mem _ hy)) (fun y hy => h2 y (List.mem_cons_of_mem _ hy))
    rw [List.map_cons]
    unfold lcD
    rw [h1 x List.mem_cons_self, Option.bind_some]
    cases hc : c x with
    | true =>
      have q := h2 x List.mem_cons_self hc
      obtain ⟨r, e1, e2⟩ := Option.bind_eq_some_iff.mp q
      rw [if_pos rfl, e1, Option.bind_some, e2, Option.bind_some, ih, List.filter_cons, if_pos hc]
      rfl
    | false =>
      rw [if_neg Bool.false_ne_true, ih, List.filter_cons, if_neg (by rw [hc]; exact Bool.false_ne_true)]
theorem lcD_all {α β : Type} {e : α → PyData} {e' : β → PyData} {ρ : Rho} {n : Nat} {t : Rho → Option Bool} {f : FE} (h : α → β) {l : List α} (h1 : ∀ x ∈ l, t (ρ.set n (.d (e x))) = some true) (h2 : ∀ x ∈ l, (f (ρ.set n (.d (e x)))).bind Res.fr = some (e' (h x))) : lcD n t f ρ (l.map e) = some ((l.map h).map e') := by
  have q := lcD_gen (e := e) (e' := e') (f := f) (fun _ => true) h h1 (fun x hx _ => h2 x hx)
  rw [q, List.filter_eq_self.mpr (fun _ _ => rfl)]
section
variable {α : Type} {x y z : α} {r : List α}
@[simp] theorem at_0 : atI (x :: r) 0 = some x := atI_nat (j := 0) rfl
@[simp] theorem at_1 : atI (x :: y :: r) 1 = some y := atI_nat (j := 1) rfl
@[simp] theorem at_2 : atI (x :: y :: z :: r) 2 = some z := atI_nat (j := 2) rfl
@[simp] theorem at_if {c : Prop} [Decidable c] : atI [x, y] (if c then 1 else 0) = some (if c then y else x) := by
  split <;> simp
@[simp] theorem at_m1 : atI [x] (-1) = some x := atI_last [] x
@[simp] theorem at_m1' : atI [x, y] (-1) = some y := atI_last [x] y
end
@[simp] theorem enD_map {k : Nat} {ds : List PyData} : (enD k ds).length = ds.length := enD_len k ds
@[simp] theorem int_ite {c : Prop} [Decidable c] {a b : Int} : (if c then PyData.int a else PyData.int b) = PyData.int (if c then a else b) := by split <;> rfl
theorem enD_at {ds : List PyData} {i : Nat} {x : PyData} (h : (enD 0 ds)[i]? = some x) : ∃ d, ds[i]? = some d ∧ x = .tuple [.int (i : Int), d] := by
  rw [enD_get] at h
  obtain ⟨d, h1, h2⟩ := Option.map_eq_some_iff.mp h
  rw [Nat.zero_add] at h2
  exact ⟨d, h1, h2.symm⟩
theorem six_pos {n d : Nat} {k : Int} (h : 0 ≤ k) : HT.sIx n d (some k) = min k.toNat n := by
  show (if k < 0 then (k + (n : Int)).toNat else min k.toNat n) = _
  rw [if_neg (by omega)]
theorem cut_to {α : Type} {xs : List α} {k : Int} (h : 0 ≤ k) : cutD xs none (some k) = xs.take k.toNat := by
  unfold cutD
  rw [six_pos h, HT.sIx_none, List.drop_zero, Nat.sub_zero]
  rcases Nat.le_total k.toNat xs.length with q | q
  · rw [Nat.min_eq_left q]
  · rw [Nat.min_eq_right q, List.take_length, List.take_of_length_le q]
theorem cut_from {α : Type} {xs : List α} {k : Int} (h : 0 ≤ k) : cutD xs (some k) none = xs.drop k.toNat := by
  unfold cutD
  rw [six_pos h, HT.sIx_none]
  rcases Nat.le_total k.toNat xs.length with q | q
  · rw [Nat.min_eq_left q, List.take_of_length_le (by rw [List.length_drop]; omega)]
  · rw [Nat.min_eq_right q, List.drop_length, List.take_nil, List.drop_of_length_le q]
theorem cut_mid {α : Type} {xs : List α} {a b : Int} (h : 0 ≤ a) (h2 : 0 ≤ b) : cutD xs (some a) (some b) = (xs.drop a.toNat).take (b.toNat - a.toNat) := by
  unfold cutD
  rw [six_pos h, six_pos h2]
  rcases Nat.le_total a.toNat xs.length with q | q
  · rw [Nat.min_eq_left q]
    rcases Nat.le_total b.toNat xs.length with r | r
    · rw [Nat.min_eq_left r]
    · rw [Nat.min_eq_right r, List.take_of_length_le (by rw [List.length_drop]; omega), List.take_of_length_le (by rw [List.length_drop]; omega)]
  · rw [Nat.min_eq_right q, List.drop_length, List.take_nil, List.drop_of_length_le q, List.take_nil]
theorem cut_map {α β : Type} {f : α → β} {xs : List α} {a b : Option Int} : cutD (xs.map f) a b = (cutD xs a b).map f := by
  unfold cutD
  rw [List.length_map, List.map_take, List.map_drop]
theorem cut_len {α : Type} {xs : List α} {a b : Option Int} : (cutD xs a b).length ≤ xs.length := by
  unfold cutD
  rw [List.length_take, List.length_drop]
  omega
/-! ### lists of ints -/
@[simp] theorem eqvAll_ints : ∀ {ns ms : List Int}, PyData.eqvAll (ns.map PyData.int) (ms.map PyData.int) = decide (ns = ms)
  | [], [] => by simp [PyData.eqvAll]
  | [], _ :: _ => by simp [PyData.eqvAll]
  | _ :: _, [] => by simp [PyData.eqvAll]
  | n :: ns, m :: ms => by
    rw [List.map_cons, List.map_cons, PyData.eqvAll, eqv_int, eqvAll_ints]
    by_cases h : n = m <;> by_cases h2 : ns = ms <;> simp [h, h2]
@[simp] theorem eqv_ints_t {ns ms : List Int} : PyData.eqv (.tuple (ns.map PyData.int)) (.tuple (ms.map PyData.int)) = decide (ns = ms) := by
  rw [PyData.eqv, eqvAll_ints]
@[simp] theorem eqv_ints_l {ns ms : List Int} : PyData.eqv (.list (ns.map PyData.int)) (.list (ms.map PyData.int)) = decide (ns = ms) := by
  rw [PyData.eqv, eqvAll_ints]
theorem lay_ints : ∀ ns : List Int, PyData.canLayAll0 (ns.map PyData.int) = true
  | [] => by simp [PyData.canLayAll0]
  | n :: ns => by simp [PyData.canLayAll0, PyData.canLay0, lay_ints ns]
theorem depth_ints : ∀ ns : List Int, PyData.depthAll (ns.map PyData.int) = 0
  | [] => by simp [PyData.depthAll]
  | n :: ns => by simp [PyData.depthAll, PyData.depth, depth_ints ns]
@[simp] theorem shaped_ints_t {ns : List Int} : SeqAt.shaped (.tuple (ns.map PyData.int)) = true := by
  simp [SeqAt.shaped, PyData.canLay0, PyData.depth, lay_ints, depth_ints]
@[simp] theorem shaped_ints_l {ns : List Int} : SeqAt.shaped (.list (ns.map PyData.int)) = true := by
  simp [SeqAt.shaped, PyData.canLay0, PyData.depth, lay_ints, depth_ints]
@[simp] theorem shaped_nil_l : SeqAt.shaped (.list []) = true := shaped_ints_l (ns := [])
@[simp] theorem shaped_nil_t : SeqAt.shaped (.tuple []) = true := shaped_ints_t (ns := [])
@[simp] theorem eqv_nil_l {ns : List Int} : PyData.eqv (.list (ns.map PyData.int)) (.list []) = decide (ns = []) := eqv_ints_l (ms := [])
@[simp] theorem eqv_nil_t {ns : List Int} : PyData.eqv (.tuple (ns.map PyData.int)) (.tuple []) = decide (ns = []) := eqv_ints_t (ms := [])
@[simp] theorem flat_ints {ns : List Int} : (ns.map PyData.int).all flatD = true := by
  rw [List.all_map]
  exact List.all_eq_true.mpr fun _ _ => rfl
@[simp] theorem inD_ints {n : Int} {ns : List Int} : inD (.int n) (ns.map PyData.int) = decide (n ∈ ns) := by
  unfold inD
  rw [List.any_map]
  induction ns with
  | nil => simp
  | cons m ns ih =>
    rw [List.any_cons, ih]
    show (PyData.eqv (.int m) (.int n) || _) = _
    rw [eqv_int]
    by_cases h : n = m
    · subst h; simp
    · have h' : ¬ m = n := fun e => h e.symm
      simp [h, h']
end DL
namespace DL
open PySem PySem.Spec PyProof.Rows L2
/-! ### the laws' draws -/
def mixed (c t : Int) : Int :=
  if 10 ^ 18 ≤ c then c else
  let first := (c % 1000003 * 48271 + 69621 * (t + 1)) % 2147483647
  let second := (first * 48271 + c % 999983) % 2147483647
  let third := (second * 69621 + first) % 2147483647
  first + 2147483647 * second + 4611686014132420609 * third
def lstep (v : Int) (k : Nat) (left : Int) : Int := if left = 0 then v + 7919 * ((k : Int) + 1) else left
def lgo (v s : Int) : Nat → Nat → Int → List Int
  | _, 0, _ => []
  | k, n + 1, left =>
    let l := lstep v k left
    let d := l % (2 * s - 2)
    (if s - 1 ≤ d then s - 2 - d else d + 1) :: lgo v s (k + 1) n (l / (2 * s - 2))
def lword (v s m : Int) : List Int := lgo v s 0 (v % (m + 1)).toNat (v / (m + 1))
theorem lgo_mem {v s : Int} (hs : 2 ≤ s) : ∀ {n k : Nat} {left x : Int}, x ∈ lgo v s k n left → x ≠ 0 ∧ -s < x ∧ x < s
  | 0, _, _, _, h => by cases h
  | n + 1, k, left, x, h => by
    unfold lgo at h
    have h1 := Int.emod_nonneg (lstep v k left) (show 2 * s - 2 ≠ 0 by omega)
    have h2 := Int.emod_lt_of_pos (lstep v k left) (show 0 < 2 * s - 2 by omega)
    rcases List.mem_cons.mp h with e | h
    · subst e
      split <;> omega
    · exact lgo_mem hs h
theorem lgo_len {v s : Int} : ∀ {n k : Nat} {left : Int}, (lgo v s k n left).length = n
  | 0, _, _ => rfl
  | n + 1, k, left => by
    unfold lgo
    rw [List.length_cons, lgo_len]
theorem lword_mem {v s m x : Int} (hs : 2 ≤ s) (h : x ∈ lword v s m) : x ≠ 0 ∧ -s < x ∧ x < s := lgo_mem hs h
theorem lword_len {v s m : Int} (hm : 0 ≤ m) : ((lword v s m).length : Int) ≤ m := by
  unfold lword
  rw [lgo_len]
  have h1 := Int.emod_nonneg v (show m + 1 ≠ 0 by omega)
  have h2 := Int.emod_lt_of_pos v (show 0 < m + 1 by omega)
  omega
def lend (v s : Int) : Nat → Nat → Int → Int
  | _, 0, left => left
  | k, n + 1, left => lend v s (k + 1) n (lstep v k left / (2 * s - 2))
theorem lgo_snoc {v s : Int} : ∀ {n k : Nat} {left : Int}, lgo v s k (n + 1) left = lgo v s k n left ++ [if s - 1 ≤ lstep v (k + n) (lend v s k n left) % (2 * s - 2) then s - 2 - lstep v (k + n) (lend v s k n left) % (2 * s - 2) else lstep v (k + n) (lend v s k n left) % (2 * s - 2) + 1]
  | 0, k, left => rfl
  | n + 1, k, left => by
    have ih := lgo_snoc (v := v) (s := s) (n := n) (k := k + 1) (left := lstep v k left / (2 * s - 2))
    have e : k + 1 + n = k + (n + 1) := by omega
    rw [e] at ih
    show _ :: lgo v s (k + 1) (n + 1) _ = _ :: (lgo v s (k + 1) n _ ++ _)
    rw [ih]
    rfl
theorem lend_snoc {v s : Int} : ∀ {n k : Nat} {left : Int}, lend v s k (n + 1) left = lstep v (k + n) (lend v s k n left) / (2 * s - 2)
  | 0, k, left => rfl
  | n + 1, k, left => by
    have ih := lend_snoc (v := v) (s := s) (n := n) (k := k + 1) (left := lstep v k left / (2 * s - 2))
    have e : k + 1 + n = k + (n + 1) := by omega
    rw [e] at ih
    show lend v s (k + 1) (n + 1) _ = _
    rw [ih]
    rfl

def G_mixed : FS := (gSeq (gSet 2 (fC1 gInt (aCons (fVar 0) aNil)))
    (gSeq (gIf (fB (f2 gGe (fVar 2) (f2 gPow (fC (.int 10)) (fC (.int 18))))) (gRet (fVar 2)) DL.gNil)
    (gSeq (gSet 3 (f2 gMod (f2 gAdd (f2 gMul (f2 gMod (fVar 2) (fC (.int 1000003))) (fC (.int 48271))) (f2 gMul (fC (.int 69621)) (f2 gAdd (fVar 1) (fC (.int 1))))) (fC (.int 2147483647))))
    (gSeq (gSet 4 (f2 gMod (f2 gAdd (f2 gMul (fVar 3) (fC (.int 48271))) (f2 gMod (fVar 2) (fC (.int 999983)))) (fC (.int 2147483647))))
    (gSeq (gSet 5 (f2 gMod (f2 gAdd (f2 gMul (fVar 4) (fC (.int 69621))) (fVar 3)) (fC (.int 2147483647))))
    (gRet (f2 gAdd (f2 gAdd (fVar 3) (f2 gMul (fC (.int 2147483647)) (fVar 4))) (f2 gMul (fC (.int 4611686014132420609)) (fVar 5)))))))))
theorem r_mixed (c t : Int) : runD 6 G_mixed [.int c, .int t] = some (.int (mixed c t)) := by
  simp [runD_eq, G_mixed, mixed, CMul]
  split <;> rfl
def G_word : FS := (gSeq (gSetO 3 (fLst aNil))
    (gSeq (gSet 4 (f2 gDiv (fVar 0) (f2 gAdd (fVar 2) (fC (.int 1)))))
    (gSeq (gFor (rg1 (aCons (f2 gMod (fVar 0) (f2 gAdd (fVar 2) (fC (.int 1)))) aNil)) (uName 5) (gSeq (gIf (fB (f2 gEq (fVar 4) (fC (.int 0)))) (gSet 4 (f2 gAdd (fVar 0) (f2 gMul (fC (.int 7919)) (f2 gAdd (fVar 5) (fC (.int 1)))))) DL.gNil)
    (gSeq (gSet 6 (f2 gMod (fVar 4) (f2 gMinus (f2 gMul (fC (.int 2)) (fVar 1)) (fC (.int 2)))))
    (gSeq (gSet 4 (f2 gDiv (fVar 4) (f2 gMinus (f2 gMul (fC (.int 2)) (fVar 1)) (fC (.int 2)))))
    (gApp 3 (f2 gIx (fLst (aCons (f2 gAdd (fVar 6) (fC (.int 1))) (aCons (f2 gMinus (f2 gMinus (fVar 1) (fC (.int 2))) (fVar 6)) aNil))) (fC1 gInt (aCons (f2 gGe (fVar 6) (f2 gMinus (fVar 1) (fC (.int 1)))) aNil))))))))
    (gRet (fC1 gTuple (aCons (fVar 3) aNil))))))
theorem r_word (v s m : Int) (h1 : 2 ≤ s) (h2 : s ≤ 1000) (h3 : 0 ≤ m) (h4 : m ≤ 1000) : runD 7 G_word [.int v, .int s, .int m] = some (.tuple ((lword v s m).map PyData.int)) := by
  have hm1 := Int.emod_nonneg v (show m + 1 ≠ 0 by omega)
  have hm2 := Int.emod_lt_of_pos v (show 0 < m + 1 by omega)
  simp [runD_eq, G_word, Option.bind_assoc]
  refine ⟨⟨by omega, by omega⟩, by omega, ?_⟩
  rw [rg1_ok (by omega) (by omega), Option.bind_some]
  refine forD_then (fun i ρ => ∃ x y, ρ = [Slot.d (PyData.int v), Slot.d (PyData.int s), Slot.d (PyData.int m), Slot.own ((lgo v s 0 i (v / (m + 1))).map PyData.int), Slot.d (PyData.int (lend v s 0 i (v / (m + 1)))), x, y] ∧ i ≤ 1000) ⟨.und, .und, rfl, by omega⟩ ?_ ?_
  · rintro i x ρ hi ⟨y, z, rfl, hb⟩
    obtain ⟨h5, rfl⟩ := rgD_get hi
    have e1 : lgo v s 0 (i + 1) (v / (m + 1)) = _ := lgo_snoc
    have e2 : lend v s 0 (i + 1) (v / (m + 1)) = _ := lend_snoc
    rw [Nat.zero_add] at e1 e2
    have hlen : (lgo v s 0 i (v / (m + 1))).length ≤ 100000 := by rw [lgo_len]; omega
    by_cases hz : lend v s 0 i (v / (m + 1)) = 0
    · refine ⟨_, _, rfl, .inl ?_, ⟨.d (.int (i : Int)), .d (.int (lstep v i (lend v s 0 i (v / (m + 1))) % (2 * s - 2))), rfl, by omega⟩⟩
      simp [CMul, hz, hlen, e1, e2, lstep]
      omega
    · refine ⟨_, _, rfl, .inl ?_, ⟨.d (.int (i : Int)), .d (.int (lstep v i (lend v s 0 i (v / (m + 1))) % (2 * s - 2))), rfl, by omega⟩⟩
      simp [CMul, hz, hlen, e1, e2, lstep]
      omega
  · rintro ρ ⟨x, y, rfl, _⟩
    simp [lword, rgD_len]
end DL
namespace DL
open PySem PySem.Spec PyProof.Rows L2
section
variable {X : Cx} {a b c e : Expr} {es : List Expr} {st : Stmt} {rest : List Stmt} {fa fb fc : FE} {fs : FA} {pos : Pos} {g g1 g2 : FS}
/-! ### a chain of two comparisons -/
def fChain (g1 g2 : PyData → PyData → Option Res) (fa fb fc : FE) : FE := fun ρ => (fa ρ).bind fun a => (fb ρ).bind fun b => (g1 a.rd b.rd).bind fun r => match r.rd with
  | .bool true => (fc ρ).bind fun c => g2 b.rd c.rd
  | .bool false => some (.fz (.bool false))
  | _ => none
theorem ent_chain {K : PySem.W.Frag} {r1 r2 : R2} {g1 g2 : PyData → PyData → Option Res} (o1 : Op2 K r1 g1) (o2 : Op2 K r2 g2) : ∀ σ H Q, tD K (fChain g1 g2 fa fb fc) σ H Q → tChain r1 r2 (tD K fa) (tD K fb) (tD K fc) σ H Q := fun σ H Q h => by
  obtain ⟨B, Hf, ρ, r, er, hf, k⟩ := h
  unfold fChain at hf
  obtain ⟨ra, h1, hf⟩ := Option.bind_eq_some_iff.mp hf
  obtain ⟨rb, h2, hf⟩ := Option.bind_eq_some_iff.mp hf
  obtain ⟨rc, h3, hf⟩ := Option.bind_eq_some_iff.mp hf
  refine ⟨B, Hf, ρ, ra, er, h1, fun v Hf1 H1 g1 q1 => ⟨B, Hf1, ρ, rb, er.grow g1, h2, fun u Hf2 H2 g2 q2 => ?_⟩⟩
  have g12 := g1.trans g2
  refine o1 B H Hf2 H2 v u ra rb rc _ g2.fh g12.h (q1.grow g2) (q2.back g1.h) h3 fun w Hf3 H3 g3 q3 => ?_
  split at hf
  · rename_i e3
    obtain ⟨rd, h4, hf⟩ := Option.bind_eq_some_iff.mp hf
    refine ⟨true, q3.bl e3, ?_⟩
    rw [if_pos rfl]
    refine ⟨B, Hf3, ρ, rd, (er.grow g12).grow g3, h4, fun x Hf4 H4 g4 q4 => ?_⟩
    have g34 := g3.trans g4
    have g14 := g12.trans g34
    exact o2 B H Hf4 H4 u x rb rd r Q g4.fh g14.h ((q2.back g1.h).grow g34) (q4.back (g12.trans g3).h) hf fun y Hf5 H5 g5 q5 => k y Hf5 H5 (g14.trans g5) (q5.back g14.h)
  · rename_i e3
    cases hf
    refine ⟨false, q3.bl e3, ?_⟩
    rw [if_neg Bool.false_ne_true]
    exact k _ Hf3 H3 (g12.trans g3) (Dp.bl _)
  · cases hf
theorem d_chain {op op' : CmpOp} {r r' : R2} {g g' : PyData → PyData → Option Res} (ho : OpR X (compareOp op) r) (ho' : OpR X (compareOp op') r') (o : Op2 X.K r g) (o' : Op2 X.K r' g') (ha : DE X a fa) (hb : DE X b fb) (hc : DE X c fc)
    (hm : lastMarks [op, op'] [b, c] = false := by with_unfolding_all rfl) : DE X (.Compare a [op, op'] [b, c] pos) (fChain g g' fa fb fc) := pe_mono (pe_chain ho ho' ha hb hc hm) (ent_chain o o')
theorem t_chain {op op' : CmpOp} {r r' : R2} {g g' : PyData → PyData → Option Res} (ho : OpR X (compareOp op) r) (ho' : OpR X (compareOp op') r') (o : Op2 X.K r g) (o' : Op2 X.K r' g') (ha : DE X a fa) (hb : DE X b fb) (hc : DE X c fc)
    (hm : lastMarks [op, op'] [b, c] = false := by with_unfolding_all rfl) : DT X (.Compare a [op, op'] [b, c] pos) (fB (fChain g g' fa fb fc)) := pt_mono (pt_chain ho ho' ha hb hc hm) fun σ H Q h => by
  obtain ⟨B, Hf, ρ, c, er, hf, k⟩ := h
  obtain ⟨r', h1, h2⟩ := fB_some hf
  exact ent_chain o o' σ H _ ⟨B, Hf, ρ, r', er, h1, fun v Hf' H' g' q => ⟨c, q.bl h2, k Hf' H' g'⟩⟩

/-! ### own errors: raise, calls that raise, try -/
def gEx (x : Str) : FS := fun ρ => some (.ex x ρ)
theorem s_raise {x m : Str} {j : Nat} {p p2 pos2 : Pos} {C : Addr} {bmB : List Value} {B newId initId : String} (F : ExcBaseFacts B newId initId bmB) (q : PySem.W.excIn X.K C bmB newId = true) (gC : X.mg x = some (.ref C)) (kC : PySem.W.keepIn X.K (.ref C) = true)
    (h1 : PySem.W.subIn X.K (.ref C) (.type "BaseException") = some true) (h2 : PySem.W.typeIn X.K (.ref C) = some (.type "type")) (hg : Gl X x := by rfl) (hc : X.calm = true := by rfl) (hdb : (x == ("__debug__" : Str)) = false := by decide) :
    DS X (.Raise (some (.Call (.Name x p) [.Constant (.str m) j p2] [] pos)) none pos2) (gEx x) := ps_mono (ps_raise hc takesW (pmk_own F q gC kC (raises_own h1 h2) hg hdb)) fun D σ H h => by
  obtain ⟨Bs, Hf, ρ, o, er, hg, k⟩ := h
  cases hg
  exact k C σ Hf H gC GB.refl er
/-- an own error's class C, its name x, over ValueError, without a body of its own -/
structure ErrC (K : PySem.W.Frag) (mg : Str → Option Value) (x : Str) (C : Addr) : Prop where
  g : mg x = some (.ref C)
  q : PySem.W.excIn K C [.type "ValueError", .type "Exception", .type "BaseException", .type "object"] "ValueError.__new__" = true
  k : PySem.W.keepIn K (.ref C) = true
  s : PySem.W.subIn K (.ref C) (.type "BaseException") = some true
  t : PySem.W.typeIn K (.ref C) = some (.type "type")
  e : PySem.W.exmOne K (.ref C) (.ref C) = some true
theorem s_err {x m : Str} {j : Nat} {p p2 pos2 : Pos} {C : Addr} (Z : ErrC X.K X.mg x C) (hg : Gl X x := by rfl) (hc : X.calm = true := by rfl) (hdb : (x == ("__debug__" : Str)) = false := by decide) :
    DS X (.Raise (some (.Call (.Name x p) [.Constant (.str m) j p2] [] pos)) none pos2) (gEx x) := s_raise PySem.F.excBase_ValueError Z.q Z.g Z.k Z.s Z.t hg hc hdb
inductive RX where
  | ok (d : PyData)
  | ex (x : Str)
abbrev FX := List PyData → Option RX
def spX (K : PySem.W.Frag) (mg : Str → Option Value) (n : Nat) (F : FX) : Sp := fun vs H Q E => ∃ Hf ds r, Same Hf H ∧ DpAll K Hf vs ds ∧ ds.length = n ∧ F ds = some r ∧ match r with
  | .ok d => ∀ v Hf' H', Gr Hf H Hf' H' → Dp K Hf' v d → Q v H'
  | .ex x => ∀ C Hf' H', mg x = some (.ref C) → Gr Hf H Hf' H' → E (.ref C) none H'
def runX (n : Nat) (g : FS) : FX := fun ds => (g (startR n ds)).bind fun o => match o with
  | .rt d => some (.ok d)
  | .nx _ => some (.ok .none)
  | .ex x _ => some (.ex x)
  | _ => none
end
section
variable {P : Program} {w : World} {K : PySem.W.Frag} {mg : Str → Option Value} {base : Heap}
/-- THE RULE for a def that may raise -/
theorem def_okX {x qual : Str} {st : Stmt} {f : Addr} {fd : FuncData} {N ps : List Str} {k : Nat} {g : FS} (F : Fun K x qual st f fd) (S : FnScope N ps (defScope st))
    (hbody : ∀ (cdv : Value) (A : Around) (outer : List Env) (s : Shared) (H : Hp) (E : XK), Room k (A.deeper (envOfC qual (defScope st) s.heap.objs.size f cdv)) → DSs (cxOf (L2.CX P w) P w K mg base N qual (defScope st) f cdv A outer s H E) (defBody st) g)
    (htk : ∀ (cdv : Value) (A : Around) (outer : List Env) (s : Shared) (H : Hp) (E : XK), Takes (cxOf (L2.CX P w) P w K mg base N qual (defScope st) f cdv A outer s H E) (fun cls d _ H' => E cls d H') := by intro _ _ _ _ _ _; exact takes_of rfl rfl rfl rfl) :
    FnOk P w K mg base (L2.CX P w) (k + 1) f fd ps (spX K mg ps.length (runX N.length g)) := by
  refine F.okX S (fun vs H Q E h => ?_) (fun cdv A outer s H vs Q E hr h => ?_)
  · obtain ⟨Hf, ds, d, e, hd, hl, _⟩ := h
    rw [dpa_len hd, hl]
  · obtain ⟨Hf, ds, d, e, hd, hl, hF, q⟩ := h
    refine ⟨_, hbody cdv A outer s H E hr, ?_⟩
    unfold runX at hF
    obtain ⟨o, h1, h2⟩ := Option.bind_eq_some_iff.mp hF
    have er : ER K H Hf H (L2.start N vs) (startR N.length ds) := er_start e hd
    refine ⟨H, Hf, _, o, er, h1, ?_⟩
    cases o with
    | rt d' =>
      cases h2
      exact fun v Hf' H' g' e1 e2 dp => q v Hf' H' ⟨g'.f, e2, e1, g'.un⟩ dp
    | nx ρ' =>
      cases h2
      exact fun σ' Hf' H' g' er' => q .non Hf' H' ⟨g'.f, er'.bh, er'.fh, g'.un⟩ .non
    | bk _ => cases h2
    | ct _ => cases h2
    | ex x ρ' =>
      cases h2
      exact fun C σ' Hf' H' hC g' er' => wgx_of (htk cdv A outer s H E) (q C Hf' H' hC ⟨g'.f, er'.bh, er'.fh, g'.un⟩)
end
section
variable {X : Cx} {a b c e : Expr} {es : List Expr} {st : Stmt} {rest : List Stmt} {fa fb fc : FE} {fs : FA} {pos p : Pos} {g g1 g2 : FS} {k n : Nat} {f : Addr} {fd : FuncData} {ps : List Str} {F : FX} {x : Str}
/-- y = f(..), f may raise -/
def gSetX (i : Nat) (F : FX) (fs : FA) : FS := fun ρ => (fs ρ).bind fun rs => (frs rs).bind fun ds => (F ds).map fun r => match r with
  | .ok d => .nx (ρ.set i (.d d))
  | .ex x => .ex x ρ
theorem frs_len : ∀ (rs : List Res) (ds : List PyData), frs rs = some ds → ds.length = rs.length
  | [], ds, h => by cases h; rfl
  | r :: rs, ds, h => by
    unfold frs at h
    obtain ⟨x, e1, e2⟩ := Option.bind_eq_some_iff.mp h
    obtain ⟨ys, e3, e4⟩ := Option.map_eq_some_iff.mp e2
    subst e4
    rw [List.length_cons, List.length_cons, frs_len rs ys e3]
theorem s_setX {y : Str} {py : Pos} (i : Nat) (hN : X.N.Nodup) (G : FnOk X.prog X.w X.K X.mg X.base (L2.CX X.prog X.w) k f fd ps (spX X.K X.mg n F)) (hr : Room k X.A) (hm : X.mg x = some (.ref f)) (hk : PySem.W.keepIn X.K (.ref f) = true) (hb : Binds X.K fd ps []) (ha : DA X (e :: es) fs) (hn : ALen fs n)
    (hg : Gl X x := by rfl) (hdb : (x == ("__debug__" : Str)) = false := by decide) (he : starEach (e :: es) X.env = (false, eval e X.env) :: starEach es X.env := by rfl) (hpl : (backTo p (starEach es X.env)).any (·.1) = false := by rfl)
    (hi : X.N[i]? = some y := by rfl) (hx : Loc X.env.scope y := by first | exact Or.inl rfl | exact Or.inr rfl) {px : Pos} (hs : swapsWith (.Call (.Name x px) (e :: es) [] p) (some (.Name y py)) pos.line X.env = pure false := by rfl) (hf : X.fn y = true ∨ X.env.scope.names.lookup y = some .local := by first | exact .inl rfl | exact .inr rfl | assumption) :
    DS X (.Assign [.Name y py] (.Call (.Name x px) (e :: es) [] p) pos) (gSetX i F fs) := ps_mono (ps_set (i := i) hN hi hx (pe_callS G hr hg hm hk hb (fun σ => passAt takesW σ) ha hdb he hpl) hs hf) fun D σ H h => by
  obtain ⟨B, Hf, ρ, o, er, hg, kk⟩ := h
  unfold gSetX at hg
  obtain ⟨rs, h1, h2⟩ := Option.bind_eq_some_iff.mp hg
  obtain ⟨ds, h3, h4⟩ := Option.bind_eq_some_iff.mp h2
  obtain ⟨r, h5, h6⟩ := Option.map_eq_some_iff.mp h4
  subst h6
  refine ⟨B, Hf, ρ, rs, er, h1, fun vs Hf1 H1 g1 q1 => ?_⟩
  obtain ⟨Hf2, g2, s2, d2⟩ := RRs.freeze er g1 q1 h3
  have hl : ds.length = n := by rw [frs_len rs ds h3, hn rs ⟨ρ, h1⟩]
  refine ⟨Hf2, ds, r, g2.fh, d2, hl, h5, ?_⟩
  cases r with
  | ok d => exact fun v Hf3 H3 g3 dp => kk _ Hf3 H3 ((g2.trans g3).gb er.bh) ((er.grow (g2.trans g3)).set i dp)
  | ex y => exact fun C Hf3 H3 hC g3 => kk C σ Hf3 H3 hC ((g2.trans g3).gb er.bh) (er.grow (g2.trans g3))
/-- try: .. except C as e: .. (the named class alone is caught) -/
def wipeO (i : Nat) : Out → Out
  | .nx ρ => .nx (ρ.set i .und)
  | .bk ρ => .bk (ρ.set i .und)
  | .ct ρ => .ct (ρ.set i .und)
  | o => o
def gTry (x : Str) (i : Nat) (gb : FS) (gs : Addr → FS) : FS := fun ρ => (gb ρ).bind fun o => match o with
  | .ex y ρ1 => if y = x then (gs 0 (ρ1.set i (.pin (.ref 0)))).map (wipeO i) else none
  | o => some o
/-- the suite's own yield doesn't hang on the error's address -/
def Uni (i : Nat) (gs : Addr → FS) : Prop := ∀ (a : Addr) (ρ : Rho) o, (gs 0 (ρ.set i (.pin (.ref 0)))).map (wipeO i) = some o → (gs a (ρ.set i (.pin (.ref a)))).map (wipeO i) = some o ∧ (∀ y ρ', gs a (ρ.set i (.pin (.ref a))) = some (.ex y ρ') → False)
theorem ER.setP {K : PySem.W.Frag} {B Hf H : Hp} {σ : L2.St} {ρ : Rho} (er : ER K B Hf H σ ρ) (i : Nat) (v : V) : ER K B Hf H (σ.set i (some v)) (ρ.set i (.pin v)) := by
  refine ⟨er.fh, er.bh, by rw [List.length_set, List.length_set]; exact er.len, fun j s o q1 q2 => ?_, fun j k ys zs p' hjk q1 q2 q3 q4 => ?_⟩
  · by_cases z : i = j
    · subst z
      by_cases hi : i < ρ.length
      · rw [List.getElem?_set_self hi] at q1
        rw [List.getElem?_set_self (by rw [er.len]; exact hi)] at q2
        cases q1; cases q2
        rfl
      · rw [List.getElem?_eq_none (by rw [List.length_set]; omega)] at q1
        cases q1
    · rw [List.getElem?_set_ne z] at q1 q2
      exact er.sl j s o q1 q2
  · have nj : ∀ {j : Nat} {xs : List PyData}, (ρ.set i (Slot.pin v))[j]? = some (.own xs) → i ≠ j := fun {j xs} q z => by
      subst z
      by_cases hi : i < ρ.length
      · rw [List.getElem?_set_self hi] at q; cases q
      · rw [List.getElem?_eq_none (by rw [List.length_set]; omega)] at q; cases q
    have z1 := nj q1
    have z2 := nj q2
    rw [List.getElem?_set_ne z1] at q1 q3
    rw [List.getElem?_set_ne z2] at q2 q4
    exact er.dj j k ys zs p' hjk q1 q2 q3 q4
theorem ER.setU {K : PySem.W.Frag} {B Hf H : Hp} {σ : L2.St} {ρ : Rho} (er : ER K B Hf H σ ρ) (i : Nat) (v : Option V) : ER K B Hf H (σ.set i v) (ρ.set i .und) := by
  refine ⟨er.fh, er.bh, by rw [List.length_set, List.length_set]; exact er.len, fun j s o q1 q2 => ?_, fun j k ys zs p' hjk q1 q2 q3 q4 => ?_⟩
  · by_cases z : i = j
    · subst z
      by_cases hi : i < ρ.length
      · rw [List.getElem?_set_self hi] at q1
        cases q1
        trivial
      · rw [List.getElem?_eq_none (by rw [List.length_set]; omega)] at q1
        cases q1
    · rw [List.getElem?_set_ne z] at q1 q2
      exact er.sl j s o q1 q2
  · have nj : ∀ {j : Nat} {xs : List PyData}, (ρ.set i Slot.und)[j]? = some (.own xs) → i ≠ j := fun {j xs} q z => by
      subst z
      by_cases hi : i < ρ.length
      · rw [List.getElem?_set_self hi] at q; cases q
      · rw [List.getElem?_eq_none (by rw [List.length_set]; omega)] at q; cases q
    have z1 := nj q1
    have z2 := nj q2
    rw [List.getElem?_set_ne z1] at q1 q3
    rw [List.getElem?_set_ne z2] at q2 q4
    exact er.dj j k ys zs p' hjk q1 q2 q3 q4
theorem s_try {y : Str} {C : Addr} {i : Nat} {body suite : List Stmt} {b₀ : Stmt} {np pos' : Pos} {gs : Addr → FS} (hN : X.N.Nodup) (gC : X.mg x = some (.ref C)) (eP : PySem.W.exmOne X.K (.ref C) (.ref C) = some true)
    (hb : ∀ (pn : List (Addr × Obj)) (xe : Value → Shared → Prop), PassesOwn (model X.prog X.w) X.A X.env xe → DSs (X.tr pn xe) body g)
    (hsu : ∀ (a : Addr) (oe : Obj) (pn : List (Addr × Obj)), Zc (.ref C) none oe → (∃ vs, oe.data = .fields vs) → DSs (X.suite a ((a, oe) :: pn)) (b₀ :: suite) (gs a))
    (hu : Uni i gs) (hs : X.stack = X.env :: X.outer := by rfl) (hf : X.env.frame = some X.env.locals := by rfl) (hi : X.N[i]? = some y := by rfl) (hln : X.env.kindOf y = some .local := by rfl) (hg : Gl X x := by rfl) (hdb : (x == ("__debug__" : Str)) = false := by decide) :
    DS X (.Try body [.ExceptHandler (some (.Name x np)) (some y) (b₀ :: suite) pos'] [] [] pos) (gTry x i g gs) :=
  ps_mono (ps_try_as (i := i) (tb := fun W => tDS X.K X.mg W g) (ts := fun a cls d D σ H => cls = .ref C ∧ d = none ∧ tDS X.K X.mg (fun _ _ _ _ => False) (gs a) D σ H) (c := .ref C) (Wout := fun _ _ _ _ => False) hs hf hN hi hln ⟨hg, hdb, .inl gC⟩ takes0
    (fun W pn xe tk hp => pss_mono (hb pn xe hp) fun D σ H h => by
      obtain ⟨B, Hf, ρ, o, er, hg, kk⟩ := h
      refine ⟨B, Hf, ρ, o, er, hg, ?_⟩
      cases o with
      | nx _ => exact kk
      | rt _ => exact kk
      | bk _ => exact kk
      | ct _ => exact kk
      | ex y ρ' => exact fun C σ' Hf' H' hC g' er' => wgx_of tk (kk C σ' Hf' H' hC g' er'))
    (fun a oe cls d pn hz hfd => ⟨fun pins s σ H D I h => by
      obtain ⟨ec, ed, B, Hf, ρ, o, er, hg, kk⟩ := h
      subst ec ed
      refine (hsu a oe pn hz hfd).run pins s σ H D I ⟨B, Hf, ρ, o, er, hg, ?_⟩
      cases o with
      | nx _ => exact kk
      | rt _ => exact kk
      | bk _ => exact kk
      | ct _ => exact kk
      | ex y ρ' => exact fun C σ' Hf' H' hC g' er' => (kk C σ' Hf' H' hC g' er').elim⟩)) fun D σ H h => by
  obtain ⟨B, Hf, ρ, o, er, hg, k⟩ := h
  unfold gTry at hg
  obtain ⟨o1, e1, e2⟩ := Option.bind_eq_some_iff.mp hg
  refine ⟨B, Hf, ρ, o1, er, e1, ?_⟩
  cases o1 with
  | nx _ => cases e2; exact k
  | rt _ => cases e2; exact k
  | bk _ => cases e2; exact k
  | ct _ => cases e2; exact k
  | ex z ρ1 =>
    simp only at e2
    split at e2
    · rename_i hz
      subst hz
      intro C' σ' Hf' H' hC g' er'
      rw [gC] at hC
      cases hC
      refine ⟨true, eP, fun _ a ha => ⟨rfl, rfl, ?_⟩, fun q => nomatch q⟩
      obtain ⟨u1, u2⟩ := hu a ρ1 o e2
      obtain ⟨o2, u3, u4⟩ := Option.map_eq_some_iff.mp u1
      refine ⟨B, Hf', _, o2, er'.setP i (.ref a), u3, ?_⟩
      subst u4
      cases o2 with
      | nx ρ2 => exact fun σ2 Hf2 H2 g2 er2 => k _ Hf2 H2 (g'.trans g2) (er2.setU i none)
      | bk ρ2 => exact fun σ2 Hf2 H2 g2 er2 => k _ Hf2 H2 (g'.trans g2) (er2.setU i none)
      | ct ρ2 => exact fun σ2 Hf2 H2 g2 er2 => k _ Hf2 H2 (g'.trans g2) (er2.setU i none)
      | rt d => exact fun v Hf2 H2 g2 s1 s2 dp => k v Hf2 H2 (g'.trans g2) s1 s2 dp
      | ex y ρ2 => exact (u2 y ρ2 u3).elim
    · cases e2
@[simp] theorem fChain_eq {ρ : Rho} {h1 h2 : PyData → PyData → Option Res} : fChain h1 h2 fa fb fc ρ = (fa ρ).bind fun a => (fb ρ).bind fun b => (h1 a.rd b.rd).bind fun r => match r.rd with
  | .bool true => (fc ρ).bind fun c => h2 b.rd c.rd
  | .bool false => some (.fz (.bool false))
  | _ => none := (rfl)
@[simp] theorem gEx_eq {ρ : Rho} : gEx x ρ = some (.ex x ρ) := (rfl)
def setX (i : Nat) (ρ : Rho) : RX → Out
  | .ok d => .nx (ρ.set i (.d d))
  | .ex x => .ex x ρ
@[simp] theorem setX_ok {i : Nat} {ρ : Rho} {d : PyData} : setX i ρ (.ok d) = .nx (ρ.set i (.d d)) := (rfl)
@[simp] theorem setX_ex {i : Nat} {ρ : Rho} : setX i ρ (.ex x) = .ex x ρ := (rfl)
@[simp] theorem gSetX_eq {i : Nat} {ρ : Rho} : gSetX i F fs ρ = (fs ρ).bind fun rs => (frs rs).bind fun ds => (F ds).map (setX i ρ) := by
  unfold gSetX
  congr 1
@[simp] theorem wipeO_nx {i : Nat} {ρ : Rho} : wipeO i (.nx ρ) = .nx (ρ.set i .und) := (rfl)
@[simp] theorem wipeO_bk {i : Nat} {ρ : Rho} : wipeO i (.bk ρ) = .bk (ρ.set i .und) := (rfl)
@[simp] theorem wipeO_ct {i : Nat} {ρ : Rho} : wipeO i (.ct ρ) = .ct (ρ.set i .und) := (rfl)
@[simp] theorem wipeO_rt {i : Nat} {d : PyData} : wipeO i (.rt d) = .rt d := (rfl)
def tryS (x : Str) (i : Nat) (gs : Addr → FS) : Out → Option Out
  | .ex y ρ1 => if y = x then (gs 0 (ρ1.set i (.pin (.ref 0)))).map (wipeO i) else none
  | o => some o
@[simp] theorem tryS_nx {i : Nat} {gs : Addr → FS} {ρ : Rho} : tryS x i gs (.nx ρ) = some (.nx ρ) := (rfl)
@[simp] theorem tryS_rt {i : Nat} {gs : Addr → FS} {d : PyData} : tryS x i gs (.rt d) = some (.rt d) := (rfl)
@[simp] theorem tryS_ct {i : Nat} {gs : Addr → FS} {ρ : Rho} : tryS x i gs (.ct ρ) = some (.ct ρ) := (rfl)
@[simp] theorem tryS_bk {i : Nat} {gs : Addr → FS} {ρ : Rho} : tryS x i gs (.bk ρ) = some (.bk ρ) := (rfl)
@[simp] theorem tryS_ex {i : Nat} {gs : Addr → FS} {ρ : Rho} : tryS x i gs (.ex x ρ) = (gs 0 (ρ.set i (.pin (.ref 0)))).map (wipeO i) := if_pos rfl
@[simp] theorem gTry_eq {i : Nat} {gs : Addr → FS} {ρ : Rho} : gTry x i g gs ρ = (g ρ).bind (tryS x i gs) := by
  unfold gTry
  congr 1
def endX : Out → Option RX
  | .rt d => some (.ok d)
  | .nx _ => some (.ok .none)
  | .ex x _ => some (.ex x)
  | _ => none
@[simp] theorem endX_r {d : PyData} : endX (.rt d) = some (.ok d) := (rfl)
@[simp] theorem endX_n {ρ : Rho} : endX (.nx ρ) = some (.ok .none) := (rfl)
@[simp] theorem endX_x {ρ : Rho} : endX (.ex x ρ) = some (.ex x) := (rfl)
theorem runX_eq {xs : List PyData} : runX n g xs = (g (startR n xs)).bind endX := by
  unfold runX
  congr 1
/-! ### isinstance of the error that the suite holds -/
/-- the slot i holds the error at a -/
def fIsE (a : Addr) (i : Nat) (b : Bool) : FE := fun ρ => match ρ[i]? with
  | some (.pin (.ref a')) => if a' = a then some (.fz (.bool b)) else none
  | _ => none
def isS (a : Addr) (b : Bool) : Option Slot → Option Res
  | some (.pin (.ref a')) => if a' = a then some (.fz (.bool b)) else none
  | _ => none
@[simp] theorem isS_p {a : Addr} {b : Bool} : isS a b (some (.pin (.ref a))) = some (.fz (.bool b)) := if_pos rfl
@[simp] theorem fIsE_eq {a : Addr} {i : Nat} {b : Bool} {ρ : Rho} : fIsE a i b ρ = isS a b ρ[i]? := (rfl)
theorem fIsE_some {a : Addr} {i : Nat} {b : Bool} {ρ : Rho} {r : Res} (h : fIsE a i b ρ = some r) : ρ[i]? = some (.pin (.ref a)) ∧ r = .fz (.bool b) := by
  unfold fIsE at h
  split at h
  · rename_i e
    split at h
    · rename_i z
      subst z
      cases h
      exact ⟨e, rfl⟩
    · cases h
  · cases h
theorem ER.pinned {K : PySem.W.Frag} {B Hf H : Hp} {σ : L2.St} {ρ : Rho} {i : Nat} {v : V} (er : ER K B Hf H σ ρ) (h : ρ[i]? = some (.pin v)) : σ[i]? = some (some v) := by
  have hi : i < σ.length := by rw [er.len]; exact (List.getElem?_eq_some_iff.mp h).1
  have ho : σ[i]? = some σ[i] := List.getElem?_eq_getElem hi
  have q : σ[i] = some v := er.sl i _ _ h ho
  rw [ho, q]
/-- isinstance(e, (C1, C2)): the tuple just laid -/
def rIsET (K : PySem.W.Frag) (D a : Addr) : List V → Hp → VK → Prop := fun xs H Q => ∃ (tp : Addr) (cs : List V) (us : List Value) (b : Bool), xs = [.ref a, .ref tp] ∧ H tp = some (.tup cs) ∧ Paired ClsV cs us ∧ PySem.W.kitAny K (.ref D) us = some b ∧ Q (.bl b) H
theorem call_isET {a D : Addr} {oe : Obj} {pn : List (Addr × Obj)} (C : ExcC X.K D) (hz : Zc (.ref D) none oe) (hf : ∃ vs, oe.data = .fields vs) : CallR (X.suite a ((a, oe) :: pn)) (.builtin "isinstance") (rIsET X.K D a) := by
  intro pins s σ H xs us Q I r h
  obtain ⟨tp, cs, ws, b, rfl, hT, k, e, q⟩ := h
  cases r with
  | cons rx rr =>
    cases rr with
    | cons rt rr =>
      cases rr
      cases rx
      cases rt
      obtain ⟨hget, _⟩ := I.pin (a, oe) (List.mem_append.mpr (.inl List.mem_cons_self))
      obtain ⟨vs, hv⟩ := hf
      have J : PySem.W.InstAt s.heap a oe D none := by
        obtain ⟨oc, od, oda, osl⟩ := oe
        obtain ⟨h1, h2⟩ := hz
        dsimp only at h1 h2 hv
        subst h1 h2 hv
        exact ⟨hget, rfl, rfl, trivial⟩
      obtain ⟨_, its, rv, o, h1, h2, n, h3⟩ := (show ObjOk X.prog X.w H s.heap tp (.tup cs) from I.hok tp _ hT)
      have e3 := ClsV.all k rv
      subst e3
      obtain ⟨oc, od, dt, sl⟩ := o
      simp only at h2 h3
      subst h2 h3
      exact PySem.W.kia_tup (PySem.W.handS_kitx_exc C.hg C.hk C.hs C.hd C.ha C.hn C.ht C.hm) I.kIn J h1 e (fun z => nomatch z) fun tk => ⟨.bl b, H, I.kept (t' := tk) fun _ _ z => z, rfl, q⟩
section
variable {ad D : Addr} {oe : Obj} {pn : List (Addr × Obj)} {i : Nat} {b : Bool} {q pt : Pos} {T y : Str}
/-- isinstance(e, ValueError) -/
theorem d_isEB {T : Str} {m : String} (CC : ExcC X.K D) (hz : Zc (.ref D) none oe) (hf : ∃ vs, oe.data = .fields vs) (i : Nat) (he : PySem.W.kitOne X.K (.ref D) (.type m) = some b) (hm : X.mg "isinstance" = none) (hmT : X.mg T = none) (hvT : bootBuiltins T = some (.type m)) (hb : bootBuiltins "isinstance" = some (.builtin "isinstance"))
    (hi : X.N[i]? = some y := by rfl) (hv : Vis X.env.scope y := by first | exact Or.inl rfl | exact Or.inr (Or.inl rfl) | exact Or.inr (Or.inr rfl)) (hd : (y == ("__debug__" : Str)) = false := by decide) (hcd : (y == ("__classdict__" : Str)) = false := by decide)
    (hg : Gl X "isinstance" := by rfl) (hgT : Gl X T := by rfl) (hn : T ≠ "__name__" := by decide) (hdb : (T == ("__debug__" : Str)) = false := by decide)
    (h1 : starEach [.Name y pt, .Name T q] X.env = (false, eval (.Name y pt) X.env) :: starEach [.Name T q] X.env := by rfl) (h2 : starEach [.Name T q] X.env = (false, eval (.Name T q) X.env) :: starEach [] X.env := by rfl) (hpl : (backTo pos (starEach [.Name T q] X.env)).any (·.1) = false := by rfl) :
    DE (X.suite ad ((ad, oe) :: pn)) (.Call (.Name "isinstance" p) [.Name y pt, .Name T q] [] pos) (fIsE ad i b) := pe_mono (pe_callB (X := X.suite ad ((ad, oe) :: pn)) (call_isE (X := X) CC hz hf) hg hm hb (pa_cons (pe_var (i := i) hi hv hd hcd) (pa_cons (pe_bltn (v := .ty m) hgT hmT hvT rfl hn hdb) pa_nil h2) h1) (by decide) (by decide) h1 hpl) fun σ H Q h => by
  obtain ⟨B, Hf, ρ, r, er, hf, k⟩ := h
  obtain ⟨e1, e2⟩ := fIsE_some hf
  subst e2
  exact ⟨.ref ad, er.pinned e1, .ty m, _, b, rfl, fun u r => r, he, k _ _ _ (Gr.refl er.fh) (Dp.bl _)⟩
/-- isinstance(e, C), C an own class -/
theorem d_isEC {T : Str} {C : Addr} (CC : ExcC X.K D) (hz : Zc (.ref D) none oe) (hf : ∃ vs, oe.data = .fields vs) (i : Nat) (he : PySem.W.kitOne X.K (.ref D) (.ref C) = some b) (hm : X.mg "isinstance" = none) (hmT : X.mg T = some (.ref C)) (hb : bootBuiltins "isinstance" = some (.builtin "isinstance"))
    (hi : X.N[i]? = some y := by rfl) (hv : Vis X.env.scope y := by first | exact Or.inl rfl | exact Or.inr (Or.inl rfl) | exact Or.inr (Or.inr rfl)) (hd : (y == ("__debug__" : Str)) = false := by decide) (hcd : (y == ("__classdict__" : Str)) = false := by decide)
    (hg : Gl X "isinstance" := by rfl) (hgT : Gl X T := by rfl) (hdb : (T == ("__debug__" : Str)) = false := by decide)
    (h1 : starEach [.Name y pt, .Name T q] X.env = (false, eval (.Name y pt) X.env) :: starEach [.Name T q] X.env := by rfl) (h2 : starEach [.Name T q] X.env = (false, eval (.Name T q) X.env) :: starEach [] X.env := by rfl) (hpl : (backTo pos (starEach [.Name T q] X.env)).any (·.1) = false := by rfl) :
    DE (X.suite ad ((ad, oe) :: pn)) (.Call (.Name "isinstance" p) [.Name y pt, .Name T q] [] pos) (fIsE ad i b) := pe_mono (pe_callB (X := X.suite ad ((ad, oe) :: pn)) (call_isE (X := X) CC hz hf) hg hm hb (pa_cons (pe_var (i := i) hi hv hd hcd) (pa_cons (pe_glob (v := .ref C) hgT hmT rfl hdb) pa_nil h2) h1) (by decide) (by decide) h1 hpl) fun σ H Q h => by
  obtain ⟨B, Hf, ρ, r, er, hf, k⟩ := h
  obtain ⟨e1, e2⟩ := fIsE_some hf
  subst e2
  exact ⟨.ref ad, er.pinned e1, .ref C, _, b, rfl, fun u r => r, he, k _ _ _ (Gr.refl er.fh) (Dp.bl _)⟩
/-- isinstance(e, (C1, C2)) -/
theorem d_isE2 {T1 T2 : Str} {C1 C2 : Addr} {q1 q2 qt : Pos} {kt} (CC : ExcC X.K D) (hz : Zc (.ref D) none oe) (hf : ∃ vs, oe.data = .fields vs) (i : Nat) (he : PySem.W.kitAny X.K (.ref D) [.ref C1, .ref C2] = some b) (hm : X.mg "isinstance" = none) (hm1 : X.mg T1 = some (.ref C1)) (hm2 : X.mg T2 = some (.ref C2)) (hb : bootBuiltins "isinstance" = some (.builtin "isinstance"))
    (hi : X.N[i]? = some y := by rfl) (hv : Vis X.env.scope y := by first | exact Or.inl rfl | exact Or.inr (Or.inl rfl) | exact Or.inr (Or.inr rfl)) (hd : (y == ("__debug__" : Str)) = false := by decide) (hcd : (y == ("__classdict__" : Str)) = false := by decide)
    (hg : Gl X "isinstance" := by rfl) (hg1 : Gl X T1 := by rfl) (hg2 : Gl X T2 := by rfl) (hdb1 : (T1 == ("__debug__" : Str)) = false := by decide) (hdb2 : (T2 == ("__debug__" : Str)) = false := by decide)
    (h1 : starEach [.Name y pt, .Tuple [.Name T1 q1, .Name T2 q2] kt qt] X.env = (false, eval (.Name y pt) X.env) :: starEach [.Tuple [.Name T1 q1, .Name T2 q2] kt qt] X.env := by rfl) (h2 : starEach [.Tuple [.Name T1 q1, .Name T2 q2] kt qt] X.env = (false, eval (.Tuple [.Name T1 q1, .Name T2 q2] kt qt) X.env) :: starEach [] X.env := by rfl)
    (h3 : starEach [.Name T1 q1, .Name T2 q2] X.env = (false, eval (.Name T1 q1) X.env) :: starEach [.Name T2 q2] X.env := by rfl) (h4 : starEach [.Name T2 q2] X.env = (false, eval (.Name T2 q2) X.env) :: starEach [] X.env := by rfl)
    (hpl : (backTo pos (starEach [.Tuple [.Name T1 q1, .Name T2 q2] kt qt] X.env)).any (·.1) = false := by rfl) :
    DE (X.suite ad ((ad, oe) :: pn)) (.Call (.Name "isinstance" p) [.Name y pt, .Tuple [.Name T1 q1, .Name T2 q2] kt qt] [] pos) (fIsE ad i b) := pe_mono (pe_callB (X := X.suite ad ((ad, oe) :: pn)) (call_isET (X := X) CC hz hf) hg hm hb (pa_cons (pe_var (i := i) hi hv hd hcd) (pa_cons (pe_tup (pa_cons (pe_glob (v := .ref C1) hg1 hm1 rfl hdb1) (pa_cons (pe_glob (v := .ref C2) hg2 hm2 rfl hdb2) pa_nil h4) h3)) pa_nil h2) h1) (by decide) (by decide) h1 hpl) fun σ H Q h => by
  obtain ⟨B, Hf, ρ, r, er, hf, k⟩ := h
  obtain ⟨e1, e2⟩ := fIsE_some hf
  subst e2
  refine ⟨.ref ad, er.pinned e1, (by show 2 ≤ sizeLine; rw [sizeLine_eq]; omega), fun tp htp => ⟨tp, _, _, b, rfl, upd_same, .cons (.own C1) (.cons (.own C2) .nil), he, ?_⟩⟩
  exact k _ _ _ (Gr.newU er.fh htp) (Dp.bl _)
end
end
section
variable {K : PySem.W.Frag} {t : Value} {C : Addr} {b c : Bool}
theorem kit_own (hd : PySem.W.hasDictIn K C = true) (ht : PySem.W.typeIn K (.ref C) = some (.type "type")) (hs : PySem.W.subIn K t (.ref C) = some b) (hn : b = true ∨ (t == .ref C) = false) : PySem.W.kitOne K t (.ref C) = some b := by
  obtain ⟨cd, hc, _⟩ := PySem.W.any_some hd
  have e2 : ((PySem.W.clsIn K C).isSome && PySem.W.typeIn K (.ref C) == some (.type "type")) = true := by rw [hc, ht] <;> rfl
  unfold PySem.W.kitOne
  split
  · rename_i q
    rcases hn with z | z
    · rw [z]
    · rw [z] at q; cases q
  · show (if ((PySem.W.clsIn K C).isSome && PySem.W.typeIn K (.ref C) == some (.type "type")) = true then PySem.W.subIn K t (.ref C) else none) = some b
    rw [if_pos e2]
    exact hs
theorem kit_typ {D : Addr} {T : String} (hm : PySem.W.kitMeta T = true) (hs : PySem.W.subIn K (.ref D) (.type T) = some b) : PySem.W.kitOne K (.ref D) (.type T) = some b := by
  unfold PySem.W.kitOne
  rw [if_neg (by intro q; cases (beq_iff_eq.mp q))]
  show (if PySem.W.kitMeta T = true then PySem.W.subIn K (.ref D) (.type T) else none) = some b
  rw [if_pos hm]
  exact hs
theorem kit_two {x y : Value} (h1 : PySem.W.kitOne K t x = some b) (h2 : PySem.W.kitOne K t y = some c) : PySem.W.kitAny K t [x, y] = some (b || c) := by
  unfold PySem.W.kitAny
  rw [h1]
  cases b with
  | true => rfl
  | false =>
    show PySem.W.kitAny K t [y] = _
    unfold PySem.W.kitAny
    rw [h2]
    cases c <;> rfl
end
end DL
namespace K02
open PySem PySem.Spec PyProof.Rows L2 DL
/-! ### the text -/
def topS (i : Nat) : Stmt := PySem.Challenge.pw_strandsplaited_k02_moves.main.body.getD i (.Pass ⟨0, 0, 0, 0⟩)
/-! ### is_word: slots 0 strands, 1 word, 2 letter -/
abbrev s_is_word : Stmt := topS 6
theorem sc_is_word : FnScope ["strands", "word", "letter"] ["strands", "word"] (defScope s_is_word) := ⟨rfl, rfl, rfl, by decide +kernel, rfl, by decide +kernel, by decide +kernel⟩
def g_is_word : FS := (gRet (fC1 gAll (aCons (fLc (itR (fVar 1)) 2 cYes (fAnd (f2 gNe (fVar 2) (fC (.int 0))) (f2 gLt (fC1 gAbs (aCons (fVar 2) aNil)) (fVar 0))) [2]) aNil)))
theorem ok_is_word {P : Program} {w : World} {K : PySem.W.Frag} {mg : Str → Option Value} {base : Heap} {f : Addr} {fd : FuncData} {k : Nat} (F : Fun K "is_word" "is_word" s_is_word f fd) (m_all : mg "all" = none) (m_abs : mg "abs" = none) :
    FnOk P w K mg base CX0 (k + 1) f fd ["strands", "word"] (spD K 2 (runD 3 (g_is_word))) :=
  have nd := (sc_is_word).nd
  def_ok F sc_is_word fun cdv A outer s H E hr =>
  (ss_one (s_ret (d_blt (cr_all rfl) c_all m_all (by decide +kernel) (a_cons (d_lc 2 "letter" nd (j_seq (d_var 1)) (by show blkC ["strands", "word", "letter"] (defScope s_is_word) _ _ = true; decide +kernel) (fun _ _ _ _ _ => pg_name (i := 2) nd rfl (Or.inl rfl)) (fun _ _ _ _ _ => ts_nil) (fun _ _ _ _ _ => (d_and (d_cmp (op_neD hr.units) o_ne (d_var 2) d_int (nomark _)) (d_one (d_cmp op_lt o_lt (d_blt call_abs c_abs m_abs (by decide +kernel) (a_cons (d_var 2) a_nil)) (d_var 0) (nomark _)))))) a_nil))))
/-! ### is_move: slots 0 strands, 1 move, 2 _, 3 old, 4 new -/
abbrev s_is_move : Stmt := topS 8
theorem sc_is_move : FnScope ["strands", "move", "_", "old", "new"] ["strands", "move"] (defScope s_is_move) := ⟨rfl, rfl, rfl, by decide +kernel, rfl, by decide +kernel, by decide +kernel⟩
def g_is_move (F__is_pair : FD) (F__is_exchange : FD) (F__is_turn : FD) (F_is_word : FD) : FS := (gSeq (gAsg (uTup 3 (uCons (uName 2) (uCons (uName 3) (uCons (uName 4) uNil)))) (fVar 1))
    (gSeq (gIf (tOrF (tNotF (fTru (fCall F_is_word (aCons (fVar 0) (aCons (fVar 3) aNil))))) (tNotF (fTru (fCall F_is_word (aCons (fVar 0) (aCons (fVar 4) aNil)))))) (gRet (fC (.bool false))) gNil)
    (gRet (fOr (fCall F__is_pair (aCons (fVar 3) (aCons (fVar 4) aNil))) (fOr (fCall F__is_exchange (aCons (fVar 3) (aCons (fVar 4) aNil))) (fCall F__is_turn (aCons (fVar 3) (aCons (fVar 4) aNil))))))))
theorem ok_is_move {P : Program} {w : World} {K : PySem.W.Frag} {mg : Str → Option Value} {base : Heap} {f : Addr} {fd : FuncData} {k : Nat} (F : Fun K "is_move" "is_move" s_is_move f fd) {F__is_pair : FD} {f__is_pair : Addr} {fd__is_pair : FuncData} {j__is_pair : Nat} (G__is_pair : FnOk P w K mg base CX0 j__is_pair f__is_pair fd__is_pair ["old", "new"] (spD K 2 F__is_pair)) (l__is_pair : j__is_pair ≤ k) (m__is_pair : mg "_is_pair" = some (.ref f__is_pair)) (k__is_pair : PySem.W.keepIn K (.ref f__is_pair) = true) (b__is_pair : Binds K fd__is_pair ["old", "new"] []) {F__is_exchange : FD} {f__is_exchange : Addr} {fd__is_exchange : FuncData} {j__is_exchange : Nat} (G__is_exchange : FnOk P w K mg base CX0 j__is_exchange f__is_exchange fd__is_exchange ["old", "new"] (spD K 2 F__is_exchange)) (l__is_exchange : j__is_exchange ≤ k) (m__is_exchange : mg "_is_exchange" = some (.ref f__is_exchange)) (k__is_exchange : PySem.W.keepIn K (.ref f__is_exchange) = true) (b__is_exchange : Binds K fd__is_exchange ["old", "new"] []) {F__is_turn : FD} {f__is_turn : Addr} {fd__is_turn : FuncData} {j__is_turn : Nat} (G__is_turn : FnOk P w K mg base CX0 j__is_turn f__is_turn fd__is_turn ["old", "new"] (spD K 2 F__is_turn)) (l__is_turn : j__is_turn ≤ k) (m__is_turn : mg "_is_turn" = some (.ref f__is_turn)) (k__is_turn : PySem.W.keepIn K (.ref f__is_turn) = true) (b__is_turn : Binds K fd__is_turn ["old", "new"] []) {F_is_word : FD} {f_is_word : Addr} {fd_is_word : FuncData} {j_is_word : Nat} (G_is_word : FnOk P w K mg base CX0 j_is_word f_is_word fd_is_word ["strands", "word"] (spD K 2 F_is_word)) (l_is_word : j_is_word ≤ k) (m_is_word : mg "is_word" = some (.ref f_is_word)) (k_is_word : PySem.W.keepIn K (.ref f_is_word) = true) (b_is_word : Binds K fd_is_word ["strands", "word"] []) :
    FnOk P w K mg base CX0 (k + 1) f fd ["strands", "move"] (spD K 2 (runD 5 (g_is_move F__is_pair F__is_exchange F__is_turn F_is_word))) :=
  have nd := (sc_is_move).nd
  def_ok F sc_is_move fun cdv A outer s H E hr =>
  (ss_cons (s_asg (d_var 1) (g_tup (n := 3) (gs_cons (g_name 2 nd) (gs_cons (g_name 3 nd) (gs_cons (g_name 4 nd) gs_nil)))))
    (ss_cons (s_if (t_bool (w_or (t_not (t_tru (d_call G_is_word (hr.mono l_is_word) m_is_word k_is_word b_is_word (a_cons (d_var 0) (a_cons (d_var 3) a_nil)) (al_cons (al_cons al_nil))))) (w_or1 (t_not (t_tru (d_call G_is_word (hr.mono l_is_word) m_is_word k_is_word b_is_word (a_cons (d_var 0) (a_cons (d_var 4) a_nil)) (al_cons (al_cons al_nil)))))))) (ss_one (s_ret d_bl)) ss_nil)
    (ss_one (s_ret (d_or (d_call G__is_pair (hr.mono l__is_pair) m__is_pair k__is_pair b__is_pair (a_cons (d_var 3) (a_cons (d_var 4) a_nil)) (al_cons (al_cons al_nil))) (d_or (d_call G__is_exchange (hr.mono l__is_exchange) m__is_exchange k__is_exchange b__is_exchange (a_cons (d_var 3) (a_cons (d_var 4) a_nil)) (al_cons (al_cons al_nil))) (d_one (d_call G__is_turn (hr.mono l__is_turn) m__is_turn k__is_turn b__is_turn (a_cons (d_var 3) (a_cons (d_var 4) a_nil)) (al_cons (al_cons al_nil))))))))))
/-! ### _is_pair: slots 0 old, 1 new, 2 pair -/
abbrev s__is_pair : Stmt := topS 9
theorem sc__is_pair : FnScope ["old", "new", "pair"] ["old", "new"] (defScope s__is_pair) := ⟨rfl, rfl, rfl, by decide +kernel, rfl, by decide +kernel, by decide +kernel⟩
def g__is_pair : FS := (gSeq (gIf (tAndF (fTru (fVar 0)) (fTru (fVar 1))) (gRet (fC (.bool false))) gNil)
    (gSeq (gSet 2 (f2 gAdd (fVar 0) (fVar 1)))
    (gRet (fAnd (f2 gEq (fC1 gLen (aCons (fVar 2) aNil)) (fC (.int 2))) (f2 gEq (f2 gIx (fVar 2) (fC (.int 0))) (f1 gNeg (f2 gIx (fVar 2) (fC (.int 1)))))))))
theorem ok__is_pair {P : Program} {w : World} {K : PySem.W.Frag} {mg : Str → Option Value} {base : Heap} {f : Addr} {fd : FuncData} {k : Nat} (F : Fun K "_is_pair" "_is_pair" s__is_pair f fd) (m_len : mg "len" = none) :
    FnOk P w K mg base CX0 (k + 1) f fd ["old", "new"] (spD K 2 (runD 3 (g__is_pair))) :=
  have nd := (sc__is_pair).nd
  def_ok F sc__is_pair fun cdv A outer s H E hr =>
  (ss_cons (s_if (t_bool (w_and (t_tru (d_var 0)) (w_and1 (t_tru (d_var 1))))) (ss_one (s_ret d_bl)) ss_nil)
    (ss_cons (s_set 2 nd (d_add (d_var 0) (d_var 1)))
    (ss_one (s_ret (d_and (d_cmp (op_eqD hr.units) o_eq (d_blt call_len c_len m_len (by decide +kernel) (a_cons (d_var 2) a_nil)) d_int (nomark _)) (d_one (d_cmp (op_eqD hr.units) o_eq (d_ix (d_var 2) d_int) (d_neg (d_ix (d_var 2) d_int)) (nomark _))))))))
/-! ### _is_exchange: slots 0 old, 1 new -/
abbrev s__is_exchange : Stmt := topS 10
theorem sc__is_exchange : FnScope ["old", "new"] ["old", "new"] (defScope s__is_exchange) := ⟨rfl, rfl, rfl, by decide +kernel, rfl, by decide +kernel, by decide +kernel⟩
def g__is_exchange : FS := (gRet (fAnd (f2 gEq (fC1 gLen (aCons (fVar 0) aNil)) (fC (.int 2))) (fAnd (f2 gEq (fVar 1) (f1 gRev (fVar 0))) (f2 gGe (fC1 gAbs (aCons (f2 gMinus (fC1 gAbs (aCons (f2 gIx (fVar 0) (fC (.int 0))) aNil)) (fC1 gAbs (aCons (f2 gIx (fVar 0) (fC (.int 1))) aNil))) aNil)) (fC (.int 2))))))
theorem ok__is_exchange {P : Program} {w : World} {K : PySem.W.Frag} {mg : Str → Option Value} {base : Heap} {f : Addr} {fd : FuncData} {k : Nat} (F : Fun K "_is_exchange" "_is_exchange" s__is_exchange f fd) (m_len : mg "len" = none) (m_abs : mg "abs" = none) :
    FnOk P w K mg base CX0 (k + 1) f fd ["old", "new"] (spD K 2 (runD 2 (g__is_exchange))) :=
  have nd := (sc__is_exchange).nd
  def_ok F sc__is_exchange fun cdv A outer s H E hr =>
  (ss_one (s_ret (d_and (d_cmp (op_eqD hr.units) o_eq (d_blt call_len c_len m_len (by decide +kernel) (a_cons (d_var 0) a_nil)) d_int (nomark _)) (d_and (d_cmp (op_eqD hr.units) o_eq (d_var 1) (d_rev (d_var 0)) (nomark _)) (d_one (d_cmp op_ge o_ge (d_blt call_abs c_abs m_abs (by decide +kernel) (a_cons (d_sub (d_blt call_abs c_abs m_abs (by decide +kernel) (a_cons (d_ix (d_var 0) d_int) a_nil)) (d_blt call_abs c_abs m_abs (by decide +kernel) (a_cons (d_ix (d_var 0) d_int) a_nil))) a_nil)) d_int (nomark _)))))))
/-! ### _is_turn: slots 0 old, 1 new, 2 first, 3 middle, 4 last -/
abbrev s__is_turn : Stmt := topS 11
theorem sc__is_turn : FnScope ["old", "new", "first", "middle", "last"] ["old", "new"] (defScope s__is_turn) := ⟨rfl, rfl, rfl, by decide +kernel, rfl, by decide +kernel, by decide +kernel⟩
def g__is_turn : FS := (gSeq (gIf (fB (f2 gNe (fC1 gLen (aCons (fVar 0) aNil)) (fC (.int 3)))) (gRet (fC (.bool false))) gNil)
    (gSeq (gAsg (uTup 3 (uCons (uName 2) (uCons (uName 3) (uCons (uName 4) uNil)))) (fVar 0))
    (gSeq (gIf (tOrF (fB (f2 gNe (fVar 2) (fVar 4))) (fB (f2 gNe (fVar 1) (fTup (aCons (fVar 3) (aCons (fVar 2) (aCons (fVar 3) aNil))))))) (gRet (fC (.bool false))) gNil)
    (gRet (fAnd (f2 gEq (f2 gGt (fVar 2) (fC (.int 0))) (f2 gGt (fVar 3) (fC (.int 0)))) (f2 gEq (fC1 gAbs (aCons (f2 gMinus (fVar 2) (fVar 3)) aNil)) (fC (.int 1))))))))
theorem ok__is_turn {P : Program} {w : World} {K : PySem.W.Frag} {mg : Str → Option Value} {base : Heap} {f : Addr} {fd : FuncData} {k : Nat} (F : Fun K "_is_turn" "_is_turn" s__is_turn f fd) (m_abs : mg "abs" = none) (m_len : mg "len" = none) :
    FnOk P w K mg base CX0 (k + 1) f fd ["old", "new"] (spD K 2 (runD 5 (g__is_turn))) :=
  have nd := (sc__is_turn).nd
  def_ok F sc__is_turn fun cdv A outer s H E hr =>
  (ss_cons (s_if (t_cmp (op_neD hr.units) o_ne (d_blt call_len c_len m_len (by decide +kernel) (a_cons (d_var 0) a_nil)) d_int (nomark _)) (ss_one (s_ret d_bl)) ss_nil)
    (ss_cons (s_asg (d_var 0) (g_tup (n := 3) (gs_cons (g_name 2 nd) (gs_cons (g_name 3 nd) (gs_cons (g_name 4 nd) gs_nil)))))
    (ss_cons (s_if (t_bool (w_or (t_cmp (op_neD hr.units) o_ne (d_var 2) (d_var 4) (nomark _)) (w_or1 (t_cmp (op_neD hr.units) o_ne (d_var 1) (d_tup (a_cons (d_var 3) (a_cons (d_var 2) (a_cons (d_var 3) a_nil)))) (nomark _))))) (ss_one (s_ret d_bl)) ss_nil)
    (ss_one (s_ret (d_and (d_cmp (op_eqD hr.units) o_eq (d_cmp op_gt o_gt (d_var 2) d_int (nomark _)) (d_cmp op_gt o_gt (d_var 3) d_int (nomark _)) (nomark _)) (d_one (d_cmp (op_eqD hr.units) o_eq (d_blt call_abs c_abs m_abs (by decide +kernel) (a_cons (d_sub (d_var 2) (d_var 3)) a_nil)) d_int (nomark _)))))))))
/-! ### _stands_there: slots 0 letters, 1 place, 2 old -/
abbrev s__stands_there : Stmt := topS 12
theorem sc__stands_there : FnScope ["letters", "place", "old"] ["letters", "place", "old"] (defScope s__stands_there) := ⟨rfl, rfl, rfl, by decide +kernel, rfl, by decide +kernel, by decide +kernel⟩
def g__stands_there : FS := (gRet (fAnd (fChain gLe gLe (fC (.int 0)) (fVar 1) (fC1 gLen (aCons (fVar 0) aNil))) (f2 gEq (fC1 gTuple (aCons (fSl (fVar 0) (oSome (fVar 1)) (oSome (f2 gAdd (fVar 1) (fC1 gLen (aCons (fVar 2) aNil))))) aNil)) (fVar 2))))
theorem ok__stands_there {P : Program} {w : World} {K : PySem.W.Frag} {mg : Str → Option Value} {base : Heap} {f : Addr} {fd : FuncData} {k : Nat} (F : Fun K "_stands_there" "_stands_there" s__stands_there f fd) (m_len : mg "len" = none) (m_tuple : mg "tuple" = none) :
    FnOk P w K mg base CX0 (k + 1) f fd ["letters", "place", "old"] (spD K 3 (runD 3 (g__stands_there))) :=
  have nd := (sc__stands_there).nd
  def_ok F sc__stands_there fun cdv A outer s H E hr =>
  (ss_one (s_ret (d_and (d_chain op_le op_le o_le o_le d_int (d_var 1) (d_blt call_len c_len m_len (by decide +kernel) (a_cons (d_var 0) a_nil))) (d_one (d_cmp (op_eqD hr.units) o_eq (d_ty call_tuple_of c_tuple m_tuple (by decide +kernel) (a_cons (d_sl (d_var 0) (p_some (d_var 1)) (p_some (d_add (d_var 1) (d_blt call_len c_len m_len (by decide +kernel) (a_cons (d_var 2) a_nil))))) a_nil)) (d_var 2) (nomark _))))))
/-! ### made: slots 0 strands, 1 word, 2 move, 3 place, 4 old, 5 new -/
abbrev s_made : Stmt := topS 13
theorem sc_made : FnScope ["strands", "word", "move", "place", "old", "new"] ["strands", "word", "move"] (defScope s_made) := ⟨rfl, rfl, rfl, by decide +kernel, rfl, by decide +kernel, by decide +kernel⟩
def g_made (F__stands_there : FD) (F_is_move : FD) : FS := (gSeq (gIf (tNotF (fTru (fCall F_is_move (aCons (fVar 0) (aCons (fVar 2) aNil))))) (gEx "BadMove") gNil)
    (gSeq (gAsg (uTup 3 (uCons (uName 3) (uCons (uName 4) (uCons (uName 5) uNil)))) (fVar 2))
    (gSeq (gIf (tNotF (fTru (fCall F__stands_there (aCons (fVar 1) (aCons (fVar 3) (aCons (fVar 4) aNil)))))) (gEx "BadMove") gNil)
    (gRet (f2 gAdd (f2 gAdd (fSl (fVar 1) oNone (oSome (fVar 3))) (fVar 5)) (fSl (fVar 1) (oSome (f2 gAdd (fVar 3) (fC1 gLen (aCons (fVar 4) aNil)))) oNone))))))
theorem ok_made {P : Program} {w : World} {K : PySem.W.Frag} {mg : Str → Option Value} {base : Heap} {f : Addr} {fd : FuncData} {k : Nat} (F : Fun K "made" "made" s_made f fd) {F__stands_there : FD} {f__stands_there : Addr} {fd__stands_there : FuncData} {j__stands_there : Nat} (G__stands_there : FnOk P w K mg base CX0 j__stands_there f__stands_there fd__stands_there ["letters", "place", "old"] (spD K 3 F__stands_there)) (l__stands_there : j__stands_there ≤ k) (m__stands_there : mg "_stands_there" = some (.ref f__stands_there)) (k__stands_there : PySem.W.keepIn K (.ref f__stands_there) = true) (b__stands_there : Binds K fd__stands_there ["letters", "place", "old"] []) {F_is_move : FD} {f_is_move : Addr} {fd_is_move : FuncData} {j_is_move : Nat} (G_is_move : FnOk P w K mg base CX0 j_is_move f_is_move fd_is_move ["strands", "move"] (spD K 2 F_is_move)) (l_is_move : j_is_move ≤ k) (m_is_move : mg "is_move" = some (.ref f_is_move)) (k_is_move : PySem.W.keepIn K (.ref f_is_move) = true) (b_is_move : Binds K fd_is_move ["strands", "move"] []) {C_BadMove : Addr} (Z_BadMove : ErrC K mg "BadMove" C_BadMove) (m_len : mg "len" = none) :
    FnOk P w K mg base (L2.CX P w) (k + 1) f fd ["strands", "word", "move"] (spX K mg 3 (runX 6 (g_made F__stands_there F_is_move))) :=
  have nd := (sc_made).nd
  def_okX F sc_made fun cdv A outer s H E hr =>
  (ss_cons (s_if (t_not (t_tru (d_call G_is_move (hr.mono l_is_move) m_is_move k_is_move b_is_move (a_cons (d_var 0) (a_cons (d_var 2) a_nil)) (al_cons (al_cons al_nil))))) (ss_one (s_err Z_BadMove)) ss_nil)
    (ss_cons (s_asg (d_var 2) (g_tup (n := 3) (gs_cons (g_name 3 nd) (gs_cons (g_name 4 nd) (gs_cons (g_name 5 nd) gs_nil)))))
    (ss_cons (s_if (t_not (t_tru (d_call G__stands_there (hr.mono l__stands_there) m__stands_there k__stands_there b__stands_there (a_cons (d_var 1) (a_cons (d_var 3) (a_cons (d_var 4) a_nil))) (al_cons (al_cons (al_cons al_nil)))))) (ss_one (s_err Z_BadMove)) ss_nil)
    (ss_one (s_ret (d_add (d_add (d_sl (d_var 1) p_none (p_some (d_var 3))) (d_var 5)) (d_sl (d_var 1) (p_some (d_add (d_var 3) (d_blt call_len c_len m_len (by decide +kernel) (a_cons (d_var 4) a_nil)))) p_none)))))))
/-! ### _law_mixed: slots 0 cell, 1 turn, 2 value, 3 first, 4 second, 5 third -/
abbrev s__law_mixed : Stmt := topS 15
theorem sc__law_mixed : FnScope ["cell", "turn", "value", "first", "second", "third"] ["cell", "turn"] (defScope s__law_mixed) := ⟨rfl, rfl, rfl, by decide +kernel, rfl, by decide +kernel, by decide +kernel⟩
def g__law_mixed : FS := (gSeq (gSet 2 (fC1 gInt (aCons (fVar 0) aNil)))
    (gSeq (gIf (fB (f2 gGe (fVar 2) (f2 gPow (fC (.int 10)) (fC (.int 18))))) (gRet (fVar 2)) gNil)
    (gSeq (gSet 3 (f2 gMod (f2 gAdd (f2 gMul (f2 gMod (fVar 2) (fC (.int 1000003))) (fC (.int 48271))) (f2 gMul (fC (.int 69621)) (f2 gAdd (fVar 1) (fC (.int 1))))) (fC (.int 2147483647))))
    (gSeq (gSet 4 (f2 gMod (f2 gAdd (f2 gMul (fVar 3) (fC (.int 48271))) (f2 gMod (fVar 2) (fC (.int 999983)))) (fC (.int 2147483647))))
    (gSeq (gSet 5 (f2 gMod (f2 gAdd (f2 gMul (fVar 4) (fC (.int 69621))) (fVar 3)) (fC (.int 2147483647))))
    (gRet (f2 gAdd (f2 gAdd (fVar 3) (f2 gMul (fC (.int 2147483647)) (fVar 4))) (f2 gMul (fC (.int 4611686014132420609)) (fVar 5)))))))))
theorem ok__law_mixed {P : Program} {w : World} {K : PySem.W.Frag} {mg : Str → Option Value} {base : Heap} {f : Addr} {fd : FuncData} {k : Nat} (F : Fun K "_law_mixed" "_law_mixed" s__law_mixed f fd) (m_int : mg "int" = none) :
    FnOk P w K mg base CX0 (k + 1) f fd ["cell", "turn"] (spD K 2 (runD 6 (g__law_mixed))) :=
  have nd := (sc__law_mixed).nd
  def_ok F sc__law_mixed fun cdv A outer s H E hr =>
  (ss_cons (s_set 2 nd (d_ty call_int1 c_int m_int (by decide +kernel) (a_cons (d_var 0) a_nil)))
    (ss_cons (s_if (t_cmp op_ge o_ge (d_var 2) (d_pow d_int d_int) (nomark _)) (ss_one (s_ret (d_var 2))) ss_nil)
    (ss_cons (s_set 3 nd (d_mod (d_add (d_mul (d_mod (d_var 2) d_int) d_int) (d_mul d_int (d_add (d_var 1) d_int))) d_int))
    (ss_cons (s_set 4 nd (d_mod (d_add (d_mul (d_var 3) d_int) (d_mod (d_var 2) d_int)) d_int))
    (ss_cons (s_set 5 nd (d_mod (d_add (d_mul (d_var 4) d_int) (d_var 3)) d_int))
    (ss_one (s_ret (d_add (d_add (d_var 3) (d_mul d_int (d_var 4))) (d_mul d_int (d_var 5))))))))))
/-! ### _law_word: slots 0 value, 1 strands, 2 most, 3 word, 4 left, 5 k, 6 digit -/
abbrev s__law_word : Stmt := topS 16
theorem sc__law_word : FnScope ["value", "strands", "most", "word", "left", "k", "digit"] ["value", "strands", "most"] (defScope s__law_word) := ⟨rfl, rfl, rfl, by decide +kernel, rfl, by decide +kernel, by decide +kernel⟩
def g__law_word : FS := (gSeq (gSetO 3 (fLst aNil))
    (gSeq (gSet 4 (f2 gDiv (fVar 0) (f2 gAdd (fVar 2) (fC (.int 1)))))
    (gSeq (gFor (rg1 (aCons (f2 gMod (fVar 0) (f2 gAdd (fVar 2) (fC (.int 1)))) aNil)) (uName 5) (gSeq (gIf (fB (f2 gEq (fVar 4) (fC (.int 0)))) (gSet 4 (f2 gAdd (fVar 0) (f2 gMul (fC (.int 7919)) (f2 gAdd (fVar 5) (fC (.int 1)))))) gNil)
    (gSeq (gSet 6 (f2 gMod (fVar 4) (f2 gMinus (f2 gMul (fC (.int 2)) (fVar 1)) (fC (.int 2)))))
    (gSeq (gSet 4 (f2 gDiv (fVar 4) (f2 gMinus (f2 gMul (fC (.int 2)) (fVar 1)) (fC (.int 2)))))
    (gApp 3 (f2 gIx (fLst (aCons (f2 gAdd (fVar 6) (fC (.int 1))) (aCons (f2 gMinus (f2 gMinus (fVar 1) (fC (.int 2))) (fVar 6)) aNil))) (fC1 gInt (aCons (f2 gGe (fVar 6) (f2 gMinus (fVar 1) (fC (.int 1)))) aNil))))))))
    (gRet (fC1 gTuple (aCons (fVar 3) aNil))))))
theorem ok__law_word {P : Program} {w : World} {K : PySem.W.Frag} {mg : Str → Option Value} {base : Heap} {f : Addr} {fd : FuncData} {k : Nat} (F : Fun K "_law_word" "_law_word" s__law_word f fd) (m_tuple : mg "tuple" = none) (m_range : mg "range" = none) (m_int : mg "int" = none) :
    FnOk P w K mg base CX0 (k + 1) f fd ["value", "strands", "most"] (spD K 3 (runD 7 (g__law_word))) :=
  have nd := (sc__law_word).nd
  def_ok F sc__law_word fun cdv A outer s H E hr =>
  (ss_cons (s_setO 3 nd (d_lst a_nil))
    (ss_cons (s_set 4 nd (d_div (d_var 0) (d_add (d_var 2) d_int)))
    (ss_cons (s_for (i_rg1 m_range (a_cons (d_mod (d_var 0) (d_add (d_var 2) d_int)) a_nil)) (g_name 5 nd) (ss_cons (s_if (t_cmp (op_eqD hr.units) o_eq (d_var 4) d_int (nomark _)) (ss_one (s_set 4 nd (d_add (d_var 0) (d_mul d_int (d_add (d_var 5) d_int))))) ss_nil)
    (ss_cons (s_set 6 nd (d_mod (d_var 4) (d_sub (d_mul d_int (d_var 1)) d_int)))
    (ss_cons (s_set 4 nd (d_div (d_var 4) (d_sub (d_mul d_int (d_var 1)) d_int)))
    (ss_one (s_app 3 (d_ix (d_lst (a_cons (d_add (d_var 6) d_int) (a_cons (d_sub (d_sub (d_var 1) d_int) (d_var 6)) a_nil))) (d_ty call_int1 c_int m_int (by decide +kernel) (a_cons (d_cmp op_ge o_ge (d_var 6) (d_sub (d_var 1) d_int) (nomark _)) a_nil))) (ps_expr (pe_bm PySem.F.plainAttrs_list PySem.F.slot_list_append PySem.F.type_list_append mt_append (pv 3) (pa_cons (d_ix (d_lst (a_cons (d_add (d_var 6) d_int) (a_cons (d_sub (d_sub (d_var 1) d_int) (d_var 6)) a_nil))) (d_ty call_int1 c_int m_int (by decide +kernel) (a_cons (d_cmp op_ge o_ge (d_var 6) (d_sub (d_var 1) d_int) (nomark _)) a_nil))) pa_nil)))))))))
    (ss_one (s_ret (d_ty call_tuple_of c_tuple m_tuple (by decide +kernel) (a_cons (d_var 3) a_nil)))))))
/-! ### _law_is_letters: slots 0 strands, 1 word, 2 letter -/
abbrev s__law_is_letters : Stmt := topS 17
theorem sc__law_is_letters : FnScope ["strands", "word", "letter"] ["strands", "word"] (defScope s__law_is_letters) := ⟨rfl, rfl, rfl, by decide +kernel, rfl, by decide +kernel, by decide +kernel⟩
def g__law_is_letters : FS := (gRet (f2 gEq (fLc (itR (fVar 1)) 2 (tOrF (fB (f2 gEq (fVar 2) (fC (.int 0)))) (fB (f2 gGe (fC1 gAbs (aCons (fVar 2) aNil)) (fVar 0)))) (fVar 2) [2]) (fLst aNil)))
theorem ok__law_is_letters {P : Program} {w : World} {K : PySem.W.Frag} {mg : Str → Option Value} {base : Heap} {f : Addr} {fd : FuncData} {k : Nat} (F : Fun K "_law_is_letters" "_law_is_letters" s__law_is_letters f fd) (m_abs : mg "abs" = none) :
    FnOk P w K mg base CX0 (k + 1) f fd ["strands", "word"] (spD K 2 (runD 3 (g__law_is_letters))) :=
  have nd := (sc__law_is_letters).nd
  def_ok F sc__law_is_letters fun cdv A outer s H E hr =>
  (ss_one (s_ret (d_cmp (op_eqD hr.units) o_eq (d_lc 2 "letter" nd (j_seq (d_var 1)) (by show blkC ["strands", "word", "letter"] (defScope s__law_is_letters) _ _ = true; decide +kernel) (fun _ _ _ _ _ => pg_name (i := 2) nd rfl (Or.inl rfl)) (fun _ _ _ _ _ => ts_one (t_bool (w_or (t_cmp (op_eqD hr.units) o_eq (d_var 2) d_int (nomark _)) (w_or1 (t_cmp op_ge o_ge (d_blt call_abs c_abs m_abs (by decide +kernel) (a_cons (d_var 2) a_nil)) (d_var 0) (nomark _)))))) (fun _ _ _ _ _ => (d_var 2))) (d_lst a_nil) (nomark _))))
/-! ### _law_is_move: slots 0 strands, 1 move, 2 near, 3 spare, 4 old, 5 new, 6 both, 7 far -/
abbrev s__law_is_move : Stmt := topS 18
theorem sc__law_is_move : FnScope ["strands", "move", "near", "spare", "old", "new", "both", "far"] ["strands", "move"] (defScope s__law_is_move) := ⟨rfl, rfl, rfl, by decide +kernel, rfl, by decide +kernel, by decide +kernel⟩
def g__law_is_move (F__law_is_letters : FD) : FS := (gSeq (gAsg (uTup 3 (uCons (uName 3) (uCons (uName 4) (uCons (uName 5) uNil)))) (fVar 1))
    (gSeq (gIf (tOrF (tNotF (fTru (fCall F__law_is_letters (aCons (fVar 0) (aCons (fVar 4) aNil))))) (tNotF (fTru (fCall F__law_is_letters (aCons (fVar 0) (aCons (fVar 5) aNil)))))) (gRet (fC (.bool false))) gNil)
    (gSeq (gIf (tOrF (fB (f2 gEq (fVar 4) (fTup aNil))) (fB (f2 gEq (fVar 5) (fTup aNil)))) (gSeq (gSet 6 (f2 gAdd (fVar 4) (fVar 5)))
    (gRet (fAnd (f2 gEq (fC1 gLen (aCons (fVar 6) aNil)) (fC (.int 2))) (f2 gEq (f2 gAdd (f2 gIx (fVar 6) (fC (.int 0))) (f2 gIx (fVar 6) (fC (.int 1)))) (fC (.int 0)))))) gNil)
    (gSeq (gIf (tAndF (fB (f2 gEq (fC1 gLen (aCons (fVar 4) aNil)) (fC (.int 2)))) (fB (f2 gEq (fC1 gLen (aCons (fVar 5) aNil)) (fC (.int 2))))) (gSeq (gSet 7 (f2 gGt (fC1 gAbs (aCons (f2 gMinus (fC1 gAbs (aCons (f2 gIx (fVar 4) (fC (.int 0))) aNil)) (fC1 gAbs (aCons (f2 gIx (fVar 4) (fC (.int 1))) aNil))) aNil)) (fC (.int 1))))
    (gRet (fAnd (fVar 7) (fAnd (f2 gEq (f2 gIx (fVar 4) (fC (.int 0))) (f2 gIx (fVar 5) (fC (.int 1)))) (f2 gEq (f2 gIx (fVar 4) (fC (.int 1))) (f2 gIx (fVar 5) (fC (.int 0)))))))) gNil)
    (gSeq (gIf (tOrF (fB (f2 gNe (fC1 gLen (aCons (fVar 4) aNil)) (fC (.int 3)))) (tOrF (fB (f2 gNe (fC1 gLen (aCons (fVar 5) aNil)) (fC (.int 3)))) (tOrF (fB (f2 gNe (f2 gIx (fVar 4) (fC (.int 0))) (f2 gIx (fVar 4) (fC (.int 2))))) (fB (f2 gNe (f2 gIx (fVar 5) (fC (.int 0))) (f2 gIx (fVar 5) (fC (.int 2)))))))) (gRet (fC (.bool false))) gNil)
    (gSeq (gSet 2 (fAnd (f2 gGt (f2 gMul (f2 gIx (fVar 4) (fC (.int 0))) (f2 gIx (fVar 4) (fC (.int 1)))) (fC (.int 0))) (f2 gEq (fC1 gAbs (aCons (f2 gMinus (f2 gIx (fVar 4) (fC (.int 0))) (f2 gIx (fVar 4) (fC (.int 1)))) aNil)) (fC (.int 1)))))
    (gRet (fAnd (fVar 2) (fAnd (f2 gEq (f2 gIx (fVar 4) (fC (.int 0))) (f2 gIx (fVar 5) (fC (.int 1)))) (f2 gEq (f2 gIx (fVar 4) (fC (.int 1))) (f2 gIx (fVar 5) (fC (.int 0)))))))))))))
theorem ok__law_is_move {P : Program} {w : World} {K : PySem.W.Frag} {mg : Str → Option Value} {base : Heap} {f : Addr} {fd : FuncData} {k : Nat} (F : Fun K "_law_is_move" "_law_is_move" s__law_is_move f fd) {F__law_is_letters : FD} {f__law_is_letters : Addr} {fd__law_is_letters : FuncData} {j__law_is_letters : Nat} (G__law_is_letters : FnOk P w K mg base CX0 j__law_is_letters f__law_is_letters fd__law_is_letters ["strands", "word"] (spD K 2 F__law_is_letters)) (l__law_is_letters : j__law_is_letters ≤ k) (m__law_is_letters : mg "_law_is_letters" = some (.ref f__law_is_letters)) (k__law_is_letters : PySem.W.keepIn K (.ref f__law_is_letters) = true) (b__law_is_letters : Binds K fd__law_is_letters ["strands", "word"] []) (m_abs : mg "abs" = none) (m_len : mg "len" = none) :
    FnOk P w K mg base CX0 (k + 1) f fd ["strands", "move"] (spD K 2 (runD 8 (g__law_is_move F__law_is_letters))) :=
  have nd := (sc__law_is_move).nd
  def_ok F sc__law_is_move fun cdv A outer s H E hr =>
  (ss_cons (s_asg (d_var 1) (g_tup (n := 3) (gs_cons (g_name 3 nd) (gs_cons (g_name 4 nd) (gs_cons (g_name 5 nd) gs_nil)))))
    (ss_cons (s_if (t_bool (w_or (t_not (t_tru (d_call G__law_is_letters (hr.mono l__law_is_letters) m__law_is_letters k__law_is_letters b__law_is_letters (a_cons (d_var 0) (a_cons (d_var 4) a_nil)) (al_cons (al_cons al_nil))))) (w_or1 (t_not (t_tru (d_call G__law_is_letters (hr.mono l__law_is_letters) m__law_is_letters k__law_is_letters b__law_is_letters (a_cons (d_var 0) (a_cons (d_var 5) a_nil)) (al_cons (al_cons al_nil)))))))) (ss_one (s_ret d_bl)) ss_nil)
    (ss_cons (s_if (t_bool (w_or (t_cmp (op_eqD hr.units) o_eq (d_var 4) (d_tup a_nil) (nomark _)) (w_or1 (t_cmp (op_eqD hr.units) o_eq (d_var 5) (d_tup a_nil) (nomark _))))) (ss_cons (s_set 6 nd (d_add (d_var 4) (d_var 5)))
    (ss_one (s_ret (d_and (d_cmp (op_eqD hr.units) o_eq (d_blt call_len c_len m_len (by decide +kernel) (a_cons (d_var 6) a_nil)) d_int (nomark _)) (d_one (d_cmp (op_eqD hr.units) o_eq (d_add (d_ix (d_var 6) d_int) (d_ix (d_var 6) d_int)) d_int (nomark _))))))) ss_nil)
    (ss_cons (s_if (t_bool (w_and (t_cmp (op_eqD hr.units) o_eq (d_blt call_len c_len m_len (by decide +kernel) (a_cons (d_var 4) a_nil)) d_int (nomark _)) (w_and1 (t_cmp (op_eqD hr.units) o_eq (d_blt call_len c_len m_len (by decide +kernel) (a_cons (d_var 5) a_nil)) d_int (nomark _))))) (ss_cons (s_set 7 nd (d_cmp op_gt o_gt (d_blt call_abs c_abs m_abs (by decide +kernel) (a_cons (d_sub (d_blt call_abs c_abs m_abs (by decide +kernel) (a_cons (d_ix (d_var 4) d_int) a_nil)) (d_blt call_abs c_abs m_abs (by decide +kernel) (a_cons (d_ix (d_var 4) d_int) a_nil))) a_nil)) d_int (nomark _)))
    (ss_one (s_ret (d_and (d_var 7) (d_and (d_cmp (op_eqD hr.units) o_eq (d_ix (d_var 4) d_int) (d_ix (d_var 5) d_int) (nomark _)) (d_one (d_cmp (op_eqD hr.units) o_eq (d_ix (d_var 4) d_int) (d_ix (d_var 5) d_int) (nomark _)))))))) ss_nil)
    (ss_cons (s_if (t_bool (w_or (t_cmp (op_neD hr.units) o_ne (d_blt call_len c_len m_len (by decide +kernel) (a_cons (d_var 4) a_nil)) d_int (nomark _)) (w_or (t_cmp (op_neD hr.units) o_ne (d_blt call_len c_len m_len (by decide +kernel) (a_cons (d_var 5) a_nil)) d_int (nomark _)) (w_or (t_cmp (op_neD hr.units) o_ne (d_ix (d_var 4) d_int) (d_ix (d_var 4) d_int) (nomark _)) (w_or1 (t_cmp (op_neD hr.units) o_ne (d_ix (d_var 5) d_int) (d_ix (d_var 5) d_int) (nomark _))))))) (ss_one (s_ret d_bl)) ss_nil)
    (ss_cons (s_set 2 nd (d_and (d_cmp op_gt o_gt (d_mul (d_ix (d_var 4) d_int) (d_ix (d_var 4) d_int)) d_int (nomark _)) (d_one (d_cmp (op_eqD hr.units) o_eq (d_blt call_abs c_abs m_abs (by decide +kernel) (a_cons (d_sub (d_ix (d_var 4) d_int) (d_ix (d_var 4) d_int)) a_nil)) d_int (nomark _)))))
    (ss_one (s_ret (d_and (d_var 2) (d_and (d_cmp (op_eqD hr.units) o_eq (d_ix (d_var 4) d_int) (d_ix (d_var 5) d_int) (nomark _)) (d_one (d_cmp (op_eqD hr.units) o_eq (d_ix (d_var 4) d_int) (d_ix (d_var 5) d_int) (nomark _)))))))))))))
/-! ### _law_made: slots 0 strands, 1 word, 2 move, 3 place, 4 old, 5 new -/
abbrev s__law_made : Stmt := topS 19
theorem sc__law_made : FnScope ["strands", "word", "move", "place", "old", "new"] ["strands", "word", "move"] (defScope s__law_made) := ⟨rfl, rfl, rfl, by decide +kernel, rfl, by decide +kernel, by decide +kernel⟩
def g__law_made (F__law_is_move : FD) : FS := (gSeq (gAsg (uTup 3 (uCons (uName 3) (uCons (uName 4) (uCons (uName 5) uNil)))) (fVar 2))
    (gSeq (gIf (tOrF (tNotF (fTru (fCall F__law_is_move (aCons (fVar 0) (aCons (fVar 2) aNil))))) (tOrF (fB (f2 gLt (fVar 3) (fC (.int 0)))) (fB (f2 gGt (fVar 3) (fC1 gLen (aCons (fVar 1) aNil)))))) (gRet (fC .none)) gNil)
    (gSeq (gIf (fB (f2 gNe (fSl (fVar 1) (oSome (fVar 3)) (oSome (f2 gAdd (fVar 3) (fC1 gLen (aCons (fVar 4) aNil))))) (fVar 4))) (gRet (fC .none)) gNil)
    (gRet (f2 gAdd (f2 gAdd (fSl (fVar 1) oNone (oSome (fVar 3))) (fVar 5)) (fSl (fVar 1) (oSome (f2 gAdd (fVar 3) (fC1 gLen (aCons (fVar 4) aNil)))) oNone))))))
theorem ok__law_made {P : Program} {w : World} {K : PySem.W.Frag} {mg : Str → Option Value} {base : Heap} {f : Addr} {fd : FuncData} {k : Nat} (F : Fun K "_law_made" "_law_made" s__law_made f fd) {F__law_is_move : FD} {f__law_is_move : Addr} {fd__law_is_move : FuncData} {j__law_is_move : Nat} (G__law_is_move : FnOk P w K mg base CX0 j__law_is_move f__law_is_move fd__law_is_move ["strands", "move"] (spD K 2 F__law_is_move)) (l__law_is_move : j__law_is_move ≤ k) (m__law_is_move : mg "_law_is_move" = some (.ref f__law_is_move)) (k__law_is_move : PySem.W.keepIn K (.ref f__law_is_move) = true) (b__law_is_move : Binds K fd__law_is_move ["strands", "move"] []) (m_len : mg "len" = none) :
    FnOk P w K mg base CX0 (k + 1) f fd ["strands", "word", "move"] (spD K 3 (runD 6 (g__law_made F__law_is_move))) :=
  have nd := (sc__law_made).nd
  def_ok F sc__law_made fun cdv A outer s H E hr =>
  (ss_cons (s_asg (d_var 2) (g_tup (n := 3) (gs_cons (g_name 3 nd) (gs_cons (g_name 4 nd) (gs_cons (g_name 5 nd) gs_nil)))))
    (ss_cons (s_if (t_bool (w_or (t_not (t_tru (d_call G__law_is_move (hr.mono l__law_is_move) m__law_is_move k__law_is_move b__law_is_move (a_cons (d_var 0) (a_cons (d_var 2) a_nil)) (al_cons (al_cons al_nil))))) (w_or (t_cmp op_lt o_lt (d_var 3) d_int (nomark _)) (w_or1 (t_cmp op_gt o_gt (d_var 3) (d_blt call_len c_len m_len (by decide +kernel) (a_cons (d_var 1) a_nil)) (nomark _)))))) (ss_one (s_ret d_non)) ss_nil)
    (ss_cons (s_if (t_cmp (op_neD hr.units) o_ne (d_sl (d_var 1) (p_some (d_var 3)) (p_some (d_add (d_var 3) (d_blt call_len c_len m_len (by decide +kernel) (a_cons (d_var 4) a_nil))))) (d_var 4) (nomark _)) (ss_one (s_ret d_non)) ss_nil)
    (ss_one (s_ret (d_add (d_add (d_sl (d_var 1) p_none (p_some (d_var 3))) (d_var 5)) (d_sl (d_var 1) (p_some (d_add (d_var 3) (d_blt call_len c_len m_len (by decide +kernel) (a_cons (d_var 4) a_nil)))) p_none)))))))
/-! ### _law_moves_there: slots 0 strands, 1 word, 2 found, 3 place, 4 pair, 5 three -/
abbrev s__law_moves_there : Stmt := topS 21
theorem sc__law_moves_there : FnScope ["strands", "word", "found", "place", "pair", "three"] ["strands", "word"] (defScope s__law_moves_there) := ⟨rfl, rfl, rfl, by decide +kernel, rfl, by decide +kernel, by decide +kernel⟩
def g__law_moves_there : FS := (gSeq (gSetO 2 (fLst aNil))
    (gSeq (gFor (rg1 (aCons (fC1 gLen (aCons (fVar 1) aNil)) aNil)) (uName 3) (gSeq (gSet 4 (fSl (fVar 1) (oSome (fVar 3)) (oSome (f2 gAdd (fVar 3) (fC (.int 2))))))
    (gSeq (gIf (tAndF (fB (f2 gEq (fC1 gLen (aCons (fVar 4) aNil)) (fC (.int 2)))) (fB (f2 gEq (f2 gAdd (f2 gIx (fVar 4) (fC (.int 0))) (f2 gIx (fVar 4) (fC (.int 1)))) (fC (.int 0))))) (gApp 2 (fTup (aCons (fVar 3) (aCons (fVar 4) (aCons (fTup aNil) aNil))))) gNil)
    (gSeq (gIf (tAndF (fB (f2 gEq (fC1 gLen (aCons (fVar 4) aNil)) (fC (.int 2)))) (fB (f2 gGt (fC1 gAbs (aCons (f2 gMinus (fC1 gAbs (aCons (f2 gIx (fVar 4) (fC (.int 0))) aNil)) (fC1 gAbs (aCons (f2 gIx (fVar 4) (fC (.int 1))) aNil))) aNil)) (fC (.int 1))))) (gApp 2 (fTup (aCons (fVar 3) (aCons (fVar 4) (aCons (fTup (aCons (f2 gIx (fVar 4) (fC (.int 1))) (aCons (f2 gIx (fVar 4) (fC (.int 0))) aNil))) aNil))))) gNil)
    (gSeq (gSet 5 (fSl (fVar 1) (oSome (fVar 3)) (oSome (f2 gAdd (fVar 3) (fC (.int 3))))))
    (gIf (tAndF (fB (f2 gEq (fC1 gLen (aCons (fVar 5) aNil)) (fC (.int 3)))) (tAndF (fB (f2 gEq (f2 gIx (fVar 5) (fC (.int 0))) (f2 gIx (fVar 5) (fC (.int 2))))) (tAndF (fB (f2 gEq (fC1 gAbs (aCons (f2 gMinus (f2 gIx (fVar 5) (fC (.int 0))) (f2 gIx (fVar 5) (fC (.int 1)))) aNil)) (fC (.int 1)))) (fB (f2 gGt (f2 gMul (f2 gIx (fVar 5) (fC (.int 0))) (f2 gIx (fVar 5) (fC (.int 1)))) (fC (.int 0))))))) (gApp 2 (fTup (aCons (fVar 3) (aCons (fVar 5) (aCons (fTup (aCons (f2 gIx (fVar 5) (fC (.int 1))) (aCons (f2 gIx (fVar 5) (fC (.int 0))) (aCons (f2 gIx (fVar 5) (fC (.int 1))) aNil)))) aNil))))) gNil))))))
    (gRet (fVar 2))))
theorem ok__law_moves_there {P : Program} {w : World} {K : PySem.W.Frag} {mg : Str → Option Value} {base : Heap} {f : Addr} {fd : FuncData} {k : Nat} (F : Fun K "_law_moves_there" "_law_moves_there" s__law_moves_there f fd) (m_range : mg "range" = none) (m_len : mg "len" = none) (m_abs : mg "abs" = none) :
    FnOk P w K mg base CX0 (k + 1) f fd ["strands", "word"] (spD K 2 (runD 6 (g__law_moves_there))) :=
  have nd := (sc__law_moves_there).nd
  def_ok F sc__law_moves_there fun cdv A outer s H E hr =>
  (ss_cons (s_setO 2 nd (d_lst a_nil))
    (ss_cons (s_for (i_rg1 m_range (a_cons (d_blt call_len c_len m_len (by decide +kernel) (a_cons (d_var 1) a_nil)) a_nil)) (g_name 3 nd) (ss_cons (s_set 4 nd (d_sl (d_var 1) (p_some (d_var 3)) (p_some (d_add (d_var 3) d_int))))
    (ss_cons (s_if (t_bool (w_and (t_cmp (op_eqD hr.units) o_eq (d_blt call_len c_len m_len (by decide +kernel) (a_cons (d_var 4) a_nil)) d_int (nomark _)) (w_and1 (t_cmp (op_eqD hr.units) o_eq (d_add (d_ix (d_var 4) d_int) (d_ix (d_var 4) d_int)) d_int (nomark _))))) (ss_one (s_app 2 (d_tup (a_cons (d_var 3) (a_cons (d_var 4) (a_cons (d_tup a_nil) a_nil)))) (ps_expr (pe_bm PySem.F.plainAttrs_list PySem.F.slot_list_append PySem.F.type_list_append mt_append (pv 2) (pa_cons (d_tup (a_cons (d_var 3) (a_cons (d_var 4) (a_cons (d_tup a_nil) a_nil)))) pa_nil))))) ss_nil)
    (ss_cons (s_if (t_bool (w_and (t_cmp (op_eqD hr.units) o_eq (d_blt call_len c_len m_len (by decide +kernel) (a_cons (d_var 4) a_nil)) d_int (nomark _)) (w_and1 (t_cmp op_gt o_gt (d_blt call_abs c_abs m_abs (by decide +kernel) (a_cons (d_sub (d_blt call_abs c_abs m_abs (by decide +kernel) (a_cons (d_ix (d_var 4) d_int) a_nil)) (d_blt call_abs c_abs m_abs (by decide +kernel) (a_cons (d_ix (d_var 4) d_int) a_nil))) a_nil)) d_int (nomark _))))) (ss_one (s_app 2 (d_tup (a_cons (d_var 3) (a_cons (d_var 4) (a_cons (d_tup (a_cons (d_ix (d_var 4) d_int) (a_cons (d_ix (d_var 4) d_int) a_nil))) a_nil)))) (ps_expr (pe_bm PySem.F.plainAttrs_list PySem.F.slot_list_append PySem.F.type_list_append mt_append (pv 2) (pa_cons (d_tup (a_cons (d_var 3) (a_cons (d_var 4) (a_cons (d_tup (a_cons (d_ix (d_var 4) d_int) (a_cons (d_ix (d_var 4) d_int) a_nil))) a_nil)))) pa_nil))))) ss_nil)
    (ss_cons (s_set 5 nd (d_sl (d_var 1) (p_some (d_var 3)) (p_some (d_add (d_var 3) d_int))))
    (ss_one (s_if (t_bool (w_and (t_cmp (op_eqD hr.units) o_eq (d_blt call_len c_len m_len (by decide +kernel) (a_cons (d_var 5) a_nil)) d_int (nomark _)) (w_and (t_cmp (op_eqD hr.units) o_eq (d_ix (d_var 5) d_int) (d_ix (d_var 5) d_int) (nomark _)) (w_and (t_cmp (op_eqD hr.units) o_eq (d_blt call_abs c_abs m_abs (by decide +kernel) (a_cons (d_sub (d_ix (d_var 5) d_int) (d_ix (d_var 5) d_int)) a_nil)) d_int (nomark _)) (w_and1 (t_cmp op_gt o_gt (d_mul (d_ix (d_var 5) d_int) (d_ix (d_var 5) d_int)) d_int (nomark _))))))) (ss_one (s_app 2 (d_tup (a_cons (d_var 3) (a_cons (d_var 5) (a_cons (d_tup (a_cons (d_ix (d_var 5) d_int) (a_cons (d_ix (d_var 5) d_int) (a_cons (d_ix (d_var 5) d_int) a_nil)))) a_nil)))) (ps_expr (pe_bm PySem.F.plainAttrs_list PySem.F.slot_list_append PySem.F.type_list_append mt_append (pv 2) (pa_cons (d_tup (a_cons (d_var 3) (a_cons (d_var 5) (a_cons (d_tup (a_cons (d_ix (d_var 5) d_int) (a_cons (d_ix (d_var 5) d_int) (a_cons (d_ix (d_var 5) d_int) a_nil)))) a_nil)))) pa_nil))))) ss_nil)))))))
    (ss_one (s_ret (d_var 2)))))
/-! ### _law_some_move: slots 0 strands, 1 word, 2 value, 3 found, 4 letter -/
abbrev s__law_some_move : Stmt := topS 22
theorem sc__law_some_move : FnScope ["strands", "word", "value", "found", "letter"] ["strands", "word", "value"] (defScope s__law_some_move) := ⟨rfl, rfl, rfl, by decide +kernel, rfl, by decide +kernel, by decide +kernel⟩
def g__law_some_move (F__law_moves_there : FD) : FS := (gSeq (gSet 3 (fCall F__law_moves_there (aCons (fVar 0) (aCons (fVar 1) aNil))))
    (gSeq (gIf (tOrF (fB (f2 gEq (fVar 3) (fLst aNil))) (fB (f2 gLt (f2 gMod (fVar 2) (fC (.int 5))) (fC (.int 2))))) (gSeq (gSet 4 (f2 gMul (f2 gAdd (fC (.int 1)) (f2 gMod (f2 gDiv (fVar 2) (fC (.int 5))) (f2 gMinus (fVar 0) (fC (.int 1))))) (f2 gIx (fLst (aCons (fC (.int 1)) (aCons (f1 gNeg (fC (.int 1))) aNil))) (f2 gMod (f2 gDiv (fVar 2) (fC (.int 40))) (fC (.int 2))))))
    (gRet (fTup (aCons (f2 gMod (f2 gDiv (fVar 2) (fC (.int 80))) (f2 gAdd (fC1 gLen (aCons (fVar 1) aNil)) (fC (.int 1)))) (aCons (fTup aNil) (aCons (fTup (aCons (fVar 4) (aCons (f2 gMinus (fC (.int 0)) (fVar 4)) aNil))) aNil)))))) gNil)
    (gRet (f2 gIx (fVar 3) (f2 gMod (f2 gDiv (fVar 2) (fC (.int 5))) (fC1 gLen (aCons (fVar 3) aNil)))))))
theorem ok__law_some_move {P : Program} {w : World} {K : PySem.W.Frag} {mg : Str → Option Value} {base : Heap} {f : Addr} {fd : FuncData} {k : Nat} (F : Fun K "_law_some_move" "_law_some_move" s__law_some_move f fd) {F__law_moves_there : FD} {f__law_moves_there : Addr} {fd__law_moves_there : FuncData} {j__law_moves_there : Nat} (G__law_moves_there : FnOk P w K mg base CX0 j__law_moves_there f__law_moves_there fd__law_moves_there ["strands", "word"] (spD K 2 F__law_moves_there)) (l__law_moves_there : j__law_moves_there ≤ k) (m__law_moves_there : mg "_law_moves_there" = some (.ref f__law_moves_there)) (k__law_moves_there : PySem.W.keepIn K (.ref f__law_moves_there) = true) (b__law_moves_there : Binds K fd__law_moves_there ["strands", "word"] []) (m_len : mg "len" = none) :
    FnOk P w K mg base CX0 (k + 1) f fd ["strands", "word", "value"] (spD K 3 (runD 5 (g__law_some_move F__law_moves_there))) :=
  have nd := (sc__law_some_move).nd
  def_ok F sc__law_some_move fun cdv A outer s H E hr =>
  (ss_cons (s_set 3 nd (d_call G__law_moves_there (hr.mono l__law_moves_there) m__law_moves_there k__law_moves_there b__law_moves_there (a_cons (d_var 0) (a_cons (d_var 1) a_nil)) (al_cons (al_cons al_nil))))
    (ss_cons (s_if (t_bool (w_or (t_cmp (op_eqD hr.units) o_eq (d_var 3) (d_lst a_nil) (nomark _)) (w_or1 (t_cmp op_lt o_lt (d_mod (d_var 2) d_int) d_int (nomark _))))) (ss_cons (s_set 4 nd (d_mul (d_add d_int (d_mod (d_div (d_var 2) d_int) (d_sub (d_var 0) d_int))) (d_ix (d_lst (a_cons d_int (a_cons (d_neg d_int) a_nil))) (d_mod (d_div (d_var 2) d_int) d_int))))
    (ss_one (s_ret (d_tup (a_cons (d_mod (d_div (d_var 2) d_int) (d_add (d_blt call_len c_len m_len (by decide +kernel) (a_cons (d_var 1) a_nil)) d_int)) (a_cons (d_tup a_nil) (a_cons (d_tup (a_cons (d_var 4) (a_cons (d_sub d_int (d_var 4)) a_nil))) a_nil))))))) ss_nil)
    (ss_one (s_ret (d_ix (d_var 3) (d_mod (d_div (d_var 2) d_int) (d_blt call_len c_len m_len (by decide +kernel) (a_cons (d_var 3) a_nil))))))))
/-! ### _law_same: slots 0 told, 1 due, 2 k -/
abbrev s__law_same : Stmt := topS 24
theorem sc__law_same : FnScope ["told", "due", "k"] ["told", "due"] (defScope s__law_same) := ⟨rfl, rfl, rfl, by decide +kernel, rfl, by decide +kernel, by decide +kernel⟩
def g__law_same (F__law_same : FD) : FS := (gSeq (gIf (tOrF (fTru (f1 (gIsi "tuple") (fVar 1))) (fTru (f1 (gIsi "list") (fVar 1)))) (gSeq (gIf (tOrF (fB (f2 gNe (f1 (gIsi "tuple") (fVar 1)) (f1 (gIsi "tuple") (fVar 0)))) (fB (f2 gNe (f1 (gIsi "list") (fVar 1)) (f1 (gIsi "list") (fVar 0))))) (gRet (fC (.bool false))) gNil)
    (gSeq (gIf (fB (f2 gNe (fC1 gLen (aCons (fVar 0) aNil)) (fC1 gLen (aCons (fVar 1) aNil)))) (gRet (fC (.bool false))) gNil)
    (gRet (f2 gEq (fLc (rg1 (aCons (fC1 gLen (aCons (fVar 1) aNil)) aNil)) 2 (tNotF (fTru (fCall F__law_same (aCons (f2 gIx (fVar 0) (fVar 2)) (aCons (f2 gIx (fVar 1) (fVar 2)) aNil))))) (fVar 2) [2]) (fLst aNil))))) gNil)
    (gSeq (gIf (fTru (f1 (gIsi "int") (fVar 1))) (gRet (fAnd (f1 (gIsi "int") (fVar 0)) (fAnd (fNot (f1 (gIsi "bool") (fVar 0))) (f2 gEq (fVar 0) (fVar 1))))) gNil)
    (gRet (f2 gEq (fVar 0) (fVar 1)))))
theorem ok__law_same {P : Program} {w : World} {K : PySem.W.Frag} {mg : Str → Option Value} {base : Heap} {f : Addr} {fd : FuncData} {k : Nat} (F : Fun K "_law_same" "_law_same" s__law_same f fd) {F__law_same : FD} {f__law_same : Addr} {fd__law_same : FuncData} {j__law_same : Nat} (G__law_same : FnOk P w K mg base CX0 j__law_same f__law_same fd__law_same ["told", "due"] (spD K 2 F__law_same)) (l__law_same : j__law_same ≤ k) (m__law_same : mg "_law_same" = some (.ref f__law_same)) (k__law_same : PySem.W.keepIn K (.ref f__law_same) = true) (b__law_same : Binds K fd__law_same ["told", "due"] []) (m_isinstance : mg "isinstance" = none) (m_int : mg "int" = none) (m_bool : mg "bool" = none) (m_tuple : mg "tuple" = none) (m_list : mg "list" = none) (m_range : mg "range" = none) (m_len : mg "len" = none) :
    FnOk P w K mg base CX0 (k + 1) f fd ["told", "due"] (spD K 2 (runD 3 (g__law_same F__law_same))) :=
  have nd := (sc__law_same).nd
  def_ok F sc__law_same fun cdv A outer s H E hr =>
  (ss_cons (s_if (t_bool (w_or (t_tru (d_isi (n := "tuple") (d_var 1) m_isinstance m_tuple (by decide +kernel) (by decide +kernel))) (w_or1 (t_tru (d_isi (n := "list") (d_var 1) m_isinstance m_list (by decide +kernel) (by decide +kernel)))))) (ss_cons (s_if (t_bool (w_or (t_cmp (op_neD hr.units) o_ne (d_isi (n := "tuple") (d_var 1) m_isinstance m_tuple (by decide +kernel) (by decide +kernel)) (d_isi (n := "tuple") (d_var 0) m_isinstance m_tuple (by decide +kernel) (by decide +kernel)) (nomark _)) (w_or1 (t_cmp (op_neD hr.units) o_ne (d_isi (n := "list") (d_var 1) m_isinstance m_list (by decide +kernel) (by decide +kernel)) (d_isi (n := "list") (d_var 0) m_isinstance m_list (by decide +kernel) (by decide +kernel)) (nomark _))))) (ss_one (s_ret d_bl)) ss_nil)
    (ss_cons (s_if (t_cmp (op_neD hr.units) o_ne (d_blt call_len c_len m_len (by decide +kernel) (a_cons (d_var 0) a_nil)) (d_blt call_len c_len m_len (by decide +kernel) (a_cons (d_var 1) a_nil)) (nomark _)) (ss_one (s_ret d_bl)) ss_nil)
    (ss_one (s_ret (d_cmp (op_eqD hr.units) o_eq (d_lc 2 "k" nd (DI.dj (i_rg1 m_range (a_cons (d_blt call_len c_len m_len (by decide +kernel) (a_cons (d_var 1) a_nil)) a_nil))) (by show blkC ["told", "due", "k"] (defScope s__law_same) _ _ = true; decide +kernel) (fun _ _ _ _ _ => pg_name (i := 2) nd rfl (Or.inl rfl)) (fun _ _ _ _ _ => ts_one (t_not (t_tru (d_call G__law_same (hr.mono l__law_same) m__law_same k__law_same b__law_same (a_cons (d_ix (d_var 0) (d_var 2)) (a_cons (d_ix (d_var 1) (d_var 2)) a_nil)) (al_cons (al_cons al_nil)))))) (fun _ _ _ _ _ => (d_var 2))) (d_lst a_nil) (nomark _)))))) ss_nil)
    (ss_cons (s_if (t_tru (d_isi (n := "int") (d_var 1) m_isinstance m_int (by decide +kernel) (by decide +kernel))) (ss_one (s_ret (d_and (d_isi (n := "int") (d_var 0) m_isinstance m_int (by decide +kernel) (by decide +kernel)) (d_and (d_not (d_isi (n := "bool") (d_var 0) m_isinstance m_bool (by decide +kernel) (by decide +kernel))) (d_one (d_cmp (op_eqD hr.units) o_eq (d_var 0) (d_var 1) (nomark _))))))) ss_nil)
    (ss_one (s_ret (d_cmp (op_eqD hr.units) o_eq (d_var 0) (d_var 1) (nomark _))))))
/-! ### _law_says: slots 0 told, 1 due -/
abbrev s__law_says : Stmt := topS 25
theorem sc__law_says : FnScope ["told", "due"] ["told", "due"] (defScope s__law_says) := ⟨rfl, rfl, rfl, by decide +kernel, rfl, by decide +kernel, by decide +kernel⟩
def g__law_says : FS := (gRet (fAnd (f1 (gIsi "bool") (fVar 0)) (f2 gEq (fVar 0) (fVar 1))))
theorem ok__law_says {P : Program} {w : World} {K : PySem.W.Frag} {mg : Str → Option Value} {base : Heap} {f : Addr} {fd : FuncData} {k : Nat} (F : Fun K "_law_says" "_law_says" s__law_says f fd) (m_isinstance : mg "isinstance" = none) (m_bool : mg "bool" = none) :
    FnOk P w K mg base CX0 (k + 1) f fd ["told", "due"] (spD K 2 (runD 2 (g__law_says))) :=
  have nd := (sc__law_says).nd
  def_ok F sc__law_says fun cdv A outer s H E hr =>
  (ss_one (s_ret (d_and (d_isi (n := "bool") (d_var 0) m_isinstance m_bool (by decide +kernel) (by decide +kernel)) (d_one (d_cmp (op_eqD hr.units) o_eq (d_var 0) (d_var 1) (nomark _))))))
/-! ### _law_letters: slots 0 value, 1 k -/
abbrev s__law_letters : Stmt := topS 26
theorem sc__law_letters : FnScope ["value", "k"] ["value"] (defScope s__law_letters) := ⟨rfl, rfl, rfl, by decide +kernel, rfl, by decide +kernel, by decide +kernel⟩
def g__law_letters : FS := (gRet (fC1 gTuple (aCons (fLc (rg1 (aCons (f2 gMod (fVar 0) (fC (.int 4))) aNil)) 1 cYes (f2 gMinus (f2 gMod (f2 gDiv (fVar 0) (f2 gIx (fLst (aCons (fC (.int 4)) (aCons (fC (.int 44)) (aCons (fC (.int 484)) aNil)))) (fVar 1))) (fC (.int 11))) (fC (.int 5))) [1]) aNil)))
theorem ok__law_letters {P : Program} {w : World} {K : PySem.W.Frag} {mg : Str → Option Value} {base : Heap} {f : Addr} {fd : FuncData} {k : Nat} (F : Fun K "_law_letters" "_law_letters" s__law_letters f fd) (m_tuple : mg "tuple" = none) (m_range : mg "range" = none) :
    FnOk P w K mg base CX0 (k + 1) f fd ["value"] (spD K 1 (runD 2 (g__law_letters))) :=
  have nd := (sc__law_letters).nd
  def_ok F sc__law_letters fun cdv A outer s H E hr =>
  (ss_one (s_ret (d_ty call_tuple_of c_tuple m_tuple (by decide +kernel) (a_cons (d_lc 1 "k" nd (DI.dj (i_rg1 m_range (a_cons (d_mod (d_var 0) d_int) a_nil))) (by show blkC ["value", "k"] (defScope s__law_letters) _ _ = true; decide +kernel) (fun _ _ _ _ _ => pg_name (i := 1) nd rfl (Or.inl rfl)) (fun _ _ _ _ _ => ts_nil) (fun _ _ _ _ _ => (d_sub (d_mod (d_div (d_var 0) (d_ix (d_lst (a_cons d_int (a_cons d_int (a_cons d_int a_nil)))) (d_var 1))) d_int) d_int))) a_nil))))
/-! ### _law_by_turns: slots 0 strands, 1 value, 2 one, 3 two -/
abbrev s__law_by_turns : Stmt := topS 27
theorem sc__law_by_turns : FnScope ["strands", "value", "one", "two"] ["strands", "value"] (defScope s__law_by_turns) := ⟨rfl, rfl, rfl, by decide +kernel, rfl, by decide +kernel, by decide +kernel⟩
def g__law_by_turns : FS := (gSeq (gSet 2 (f2 gMul (f2 gAdd (fC (.int 1)) (f2 gMod (fVar 1) (f2 gMinus (fVar 0) (fC (.int 1))))) (f2 gIx (fLst (aCons (fC (.int 1)) (aCons (f1 gNeg (fC (.int 1))) aNil))) (f2 gMod (f2 gDiv (fVar 1) (fC (.int 7))) (fC (.int 2))))))
    (gSeq (gSet 3 (f2 gMul (f2 gAdd (fC (.int 1)) (f2 gMod (f2 gDiv (fVar 1) (fC (.int 14))) (f2 gMinus (fVar 0) (fC (.int 1))))) (f2 gIx (fLst (aCons (fC (.int 1)) (aCons (f1 gNeg (fC (.int 1))) aNil))) (f2 gMod (f2 gDiv (fVar 1) (fC (.int 98))) (fC (.int 2))))))
    (gSeq (gIf (fB (f2 gGt (f2 gMod (f2 gDiv (fVar 1) (fC (.int 196))) (fC (.int 4))) (fC (.int 0)))) (gSet 3 (f2 gMul (f2 gAdd (fC1 gAbs (aCons (fVar 2) aNil)) (f2 gIx (fLst (aCons (fC (.int 1)) (aCons (f1 gNeg (fC (.int 1))) aNil))) (f2 gMod (f2 gDiv (fVar 1) (fC (.int 14))) (fC (.int 2))))) (f2 gIx (fLst (aCons (fC (.int 1)) (aCons (f1 gNeg (fC (.int 1))) aNil))) (f2 gMod (f2 gDiv (fVar 1) (fC (.int 98))) (fC (.int 2)))))) gNil)
    (gRet (fTup (aCons (fTup (aCons (fVar 2) (aCons (fVar 3) (aCons (fVar 2) aNil)))) (aCons (fTup (aCons (fVar 3) (aCons (fVar 2) (aCons (fVar 3) aNil)))) aNil)))))))
theorem ok__law_by_turns {P : Program} {w : World} {K : PySem.W.Frag} {mg : Str → Option Value} {base : Heap} {f : Addr} {fd : FuncData} {k : Nat} (F : Fun K "_law_by_turns" "_law_by_turns" s__law_by_turns f fd) (m_abs : mg "abs" = none) :
    FnOk P w K mg base CX0 (k + 1) f fd ["strands", "value"] (spD K 2 (runD 4 (g__law_by_turns))) :=
  have nd := (sc__law_by_turns).nd
  def_ok F sc__law_by_turns fun cdv A outer s H E hr =>
  (ss_cons (s_set 2 nd (d_mul (d_add d_int (d_mod (d_var 1) (d_sub (d_var 0) d_int))) (d_ix (d_lst (a_cons d_int (a_cons (d_neg d_int) a_nil))) (d_mod (d_div (d_var 1) d_int) d_int))))
    (ss_cons (s_set 3 nd (d_mul (d_add d_int (d_mod (d_div (d_var 1) d_int) (d_sub (d_var 0) d_int))) (d_ix (d_lst (a_cons d_int (a_cons (d_neg d_int) a_nil))) (d_mod (d_div (d_var 1) d_int) d_int))))
    (ss_cons (s_if (t_cmp op_gt o_gt (d_mod (d_div (d_var 1) d_int) d_int) d_int (nomark _)) (ss_one (s_set 3 nd (d_mul (d_add (d_blt call_abs c_abs m_abs (by decide +kernel) (a_cons (d_var 2) a_nil)) (d_ix (d_lst (a_cons d_int (a_cons (d_neg d_int) a_nil))) (d_mod (d_div (d_var 1) d_int) d_int))) (d_ix (d_lst (a_cons d_int (a_cons (d_neg d_int) a_nil))) (d_mod (d_div (d_var 1) d_int) d_int))))) ss_nil)
    (ss_one (s_ret (d_tup (a_cons (d_tup (a_cons (d_var 2) (a_cons (d_var 3) (a_cons (d_var 2) a_nil)))) (a_cons (d_tup (a_cons (d_var 3) (a_cons (d_var 2) (a_cons (d_var 3) a_nil)))) a_nil))))))))
/-! ### _law_drawn: slots 0 strands, 1 word, 2 value, 3 kind, 4 place, 5 old, 6 new -/
abbrev s__law_drawn : Stmt := topS 28
theorem sc__law_drawn : FnScope ["strands", "word", "value", "kind", "place", "old", "new"] ["strands", "word", "value"] (defScope s__law_drawn) := ⟨rfl, rfl, rfl, by decide +kernel, rfl, by decide +kernel, by decide +kernel⟩
def g__law_drawn (F__law_is_letters : FD) (F__law_by_turns : FD) (F__law_letters : FD) (F__law_some_move : FD) : FS := (gSeq (gAsg (uTup 3 (uCons (uName 4) (uCons (uName 5) (uCons (uName 6) uNil)))) (fCall F__law_some_move (aCons (fVar 0) (aCons (fVar 1) (aCons (f2 gDiv (fVar 2) (fC (.int 9))) aNil)))))
    (gSeq (gSet 3 (f2 gMod (fVar 2) (fC (.int 9))))
    (gSeq (gSet 2 (f2 gDiv (fVar 2) (fC (.int 9))))
    (gSeq (gIf (fB (f2 gEq (fVar 3) (fC (.int 0)))) (gSet 4 (f2 gMinus (f2 gMod (fVar 2) (f2 gAdd (fC1 gLen (aCons (fVar 1) aNil)) (fC (.int 8)))) (fC (.int 3)))) gNil)
    (gSeq (gIf (fB (f2 gEq (fVar 3) (fC (.int 1)))) (gPar 5 6 (aCons (fVar 6) (aCons (fVar 5) aNil))) gNil)
    (gSeq (gIf (fB (f2 gEq (fVar 3) (fC (.int 2)))) (gSet 6 (fCall F__law_letters (aCons (fVar 2) aNil))) gNil)
    (gSeq (gIf (fB (f2 gEq (fVar 3) (fC (.int 3)))) (gSet 5 (fCall F__law_letters (aCons (fVar 2) aNil))) gNil)
    (gSeq (gIf (fB (f2 gEq (fVar 3) (fC (.int 4)))) (gPar 5 6 (aCons (fCall F__law_letters (aCons (fVar 2) aNil)) (aCons (fCall F__law_letters (aCons (f2 gDiv (fVar 2) (fC (.int 5324))) aNil)) aNil))) gNil)
    (gSeq (gIf (tAndF (fB (f2 gEq (fVar 3) (fC (.int 5)))) (fB (f2 gGt (fC1 gLen (aCons (fVar 6) aNil)) (fC (.int 1))))) (gSet 6 (f2 gAdd (fTup (aCons (f2 gMinus (fC (.int 0)) (f2 gIx (fVar 6) (fC (.int 0)))) aNil)) (fSl (fVar 6) (oSome (fC (.int 1))) oNone))) gNil)
    (gSeq (gIf (fB (f2 gEq (fVar 3) (fC (.int 6)))) (gSet 6 (fVar 5)) gNil)
    (gSeq (gIf (fB (f2 gEq (fVar 3) (fC (.int 8)))) (gSeq (gAsg (uTup 2 (uCons (uName 5) (uCons (uName 6) uNil))) (fCall F__law_by_turns (aCons (fVar 0) (aCons (fVar 2) aNil))))
    (gIf (fTru (fCall F__law_is_letters (aCons (fVar 0) (aCons (fVar 5) aNil)))) (gSet 1 (f2 gAdd (f2 gAdd (fSl (fVar 1) oNone (oSome (fVar 4))) (fVar 5)) (fSl (fVar 1) (oSome (fVar 4)) oNone))) gNil)) gNil)
    (gRet (fTup (aCons (fVar 1) (aCons (fTup (aCons (fVar 4) (aCons (fVar 5) (aCons (fVar 6) aNil)))) aNil)))))))))))))))
theorem ok__law_drawn {P : Program} {w : World} {K : PySem.W.Frag} {mg : Str → Option Value} {base : Heap} {f : Addr} {fd : FuncData} {k : Nat} (F : Fun K "_law_drawn" "_law_drawn" s__law_drawn f fd) {F__law_is_letters : FD} {f__law_is_letters : Addr} {fd__law_is_letters : FuncData} {j__law_is_letters : Nat} (G__law_is_letters : FnOk P w K mg base CX0 j__law_is_letters f__law_is_letters fd__law_is_letters ["strands", "word"] (spD K 2 F__law_is_letters)) (l__law_is_letters : j__law_is_letters ≤ k) (m__law_is_letters : mg "_law_is_letters" = some (.ref f__law_is_letters)) (k__law_is_letters : PySem.W.keepIn K (.ref f__law_is_letters) = true) (b__law_is_letters : Binds K fd__law_is_letters ["strands", "word"] []) {F__law_by_turns : FD} {f__law_by_turns : Addr} {fd__law_by_turns : FuncData} {j__law_by_turns : Nat} (G__law_by_turns : FnOk P w K mg base CX0 j__law_by_turns f__law_by_turns fd__law_by_turns ["strands", "value"] (spD K 2 F__law_by_turns)) (l__law_by_turns : j__law_by_turns ≤ k) (m__law_by_turns : mg "_law_by_turns" = some (.ref f__law_by_turns)) (k__law_by_turns : PySem.W.keepIn K (.ref f__law_by_turns) = true) (b__law_by_turns : Binds K fd__law_by_turns ["strands", "value"] []) {F__law_letters : FD} {f__law_letters : Addr} {fd__law_letters : FuncData} {j__law_letters : Nat} (G__law_letters : FnOk P w K mg base CX0 j__law_letters f__law_letters fd__law_letters ["value"] (spD K 1 F__law_letters)) (l__law_letters : j__law_letters ≤ k) (m__law_letters : mg "_law_letters" = some (.ref f__law_letters)) (k__law_letters : PySem.W.keepIn K (.ref f__law_letters) = true) (b__law_letters : Binds K fd__law_letters ["value"] []) {F__law_some_move : FD} {f__law_some_move : Addr} {fd__law_some_move : FuncData} {j__law_some_move : Nat} (G__law_some_move : FnOk P w K mg base CX0 j__law_some_move f__law_some_move fd__law_some_move ["strands", "word", "value"] (spD K 3 F__law_some_move)) (l__law_some_move : j__law_some_move ≤ k) (m__law_some_move : mg "_law_some_move" = some (.ref f__law_some_move)) (k__law_some_move : PySem.W.keepIn K (.ref f__law_some_move) = true) (b__law_some_move : Binds K fd__law_some_move ["strands", "word", "value"] []) (m_len : mg "len" = none) :
    FnOk P w K mg base CX0 (k + 1) f fd ["strands", "word", "value"] (spD K 3 (runD 7 (g__law_drawn F__law_is_letters F__law_by_turns F__law_letters F__law_some_move))) :=
  have nd := (sc__law_drawn).nd
  def_ok F sc__law_drawn fun cdv A outer s H E hr =>
  (ss_cons (s_asg (d_call G__law_some_move (hr.mono l__law_some_move) m__law_some_move k__law_some_move b__law_some_move (a_cons (d_var 0) (a_cons (d_var 1) (a_cons (d_div (d_var 2) d_int) a_nil))) (al_cons (al_cons (al_cons al_nil)))) (g_tup (n := 3) (gs_cons (g_name 4 nd) (gs_cons (g_name 5 nd) (gs_cons (g_name 6 nd) gs_nil)))))
    (ss_cons (s_set 3 nd (d_mod (d_var 2) d_int))
    (ss_cons (s_set 2 nd (d_div (d_var 2) d_int))
    (ss_cons (s_if (t_cmp (op_eqD hr.units) o_eq (d_var 3) d_int (nomark _)) (ss_one (s_set 4 nd (d_sub (d_mod (d_var 2) (d_add (d_blt call_len c_len m_len (by decide +kernel) (a_cons (d_var 1) a_nil)) d_int)) d_int))) ss_nil)
    (ss_cons (s_if (t_cmp (op_eqD hr.units) o_eq (d_var 3) d_int (nomark _)) (ss_one (s_par 5 6 nd (a_cons (d_var 6) (a_cons (d_var 5) a_nil)))) ss_nil)
    (ss_cons (s_if (t_cmp (op_eqD hr.units) o_eq (d_var 3) d_int (nomark _)) (ss_one (s_set 6 nd (d_call G__law_letters (hr.mono l__law_letters) m__law_letters k__law_letters b__law_letters (a_cons (d_var 2) a_nil) (al_cons al_nil)))) ss_nil)
    (ss_cons (s_if (t_cmp (op_eqD hr.units) o_eq (d_var 3) d_int (nomark _)) (ss_one (s_set 5 nd (d_call G__law_letters (hr.mono l__law_letters) m__law_letters k__law_letters b__law_letters (a_cons (d_var 2) a_nil) (al_cons al_nil)))) ss_nil)
    (ss_cons (s_if (t_cmp (op_eqD hr.units) o_eq (d_var 3) d_int (nomark _)) (ss_one (s_par 5 6 nd (a_cons (d_call G__law_letters (hr.mono l__law_letters) m__law_letters k__law_letters b__law_letters (a_cons (d_var 2) a_nil) (al_cons al_nil)) (a_cons (d_call G__law_letters (hr.mono l__law_letters) m__law_letters k__law_letters b__law_letters (a_cons (d_div (d_var 2) d_int) a_nil) (al_cons al_nil)) a_nil)))) ss_nil)
    (ss_cons (s_if (t_bool (w_and (t_cmp (op_eqD hr.units) o_eq (d_var 3) d_int (nomark _)) (w_and1 (t_cmp op_gt o_gt (d_blt call_len c_len m_len (by decide +kernel) (a_cons (d_var 6) a_nil)) d_int (nomark _))))) (ss_one (s_set 6 nd (d_add (d_tup (a_cons (d_sub d_int (d_ix (d_var 6) d_int)) a_nil)) (d_sl (d_var 6) (p_some d_int) p_none)))) ss_nil)
    (ss_cons (s_if (t_cmp (op_eqD hr.units) o_eq (d_var 3) d_int (nomark _)) (ss_one (s_set 6 nd (d_var 5))) ss_nil)
    (ss_cons (s_if (t_cmp (op_eqD hr.units) o_eq (d_var 3) d_int (nomark _)) (ss_cons (s_asg (d_call G__law_by_turns (hr.mono l__law_by_turns) m__law_by_turns k__law_by_turns b__law_by_turns (a_cons (d_var 0) (a_cons (d_var 2) a_nil)) (al_cons (al_cons al_nil))) (g_tup (n := 2) (gs_cons (g_name 5 nd) (gs_cons (g_name 6 nd) gs_nil))))
    (ss_one (s_if (t_tru (d_call G__law_is_letters (hr.mono l__law_is_letters) m__law_is_letters k__law_is_letters b__law_is_letters (a_cons (d_var 0) (a_cons (d_var 5) a_nil)) (al_cons (al_cons al_nil)))) (ss_one (s_set 1 nd (d_add (d_add (d_sl (d_var 1) p_none (p_some (d_var 4))) (d_var 5)) (d_sl (d_var 1) (p_some (d_var 4)) p_none)))) ss_nil))) ss_nil)
    (ss_one (s_ret (d_tup (a_cons (d_var 1) (a_cons (d_tup (a_cons (d_var 4) (a_cons (d_var 5) (a_cons (d_var 6) a_nil)))) a_nil))))))))))))))))
/-! ### law: slots 0 script, 1 turn, 2 cell, 3 value, 4 strands, 5 due, 6 e, 7 word, 8 move, 9 told -/
abbrev s_law : Stmt := topS 29
theorem sc_law : FnScope ["script", "turn", "cell", "value", "strands", "due", "e", "word", "move", "told"] ["script"] (defScope s_law) := ⟨rfl, rfl, rfl, by decide +kernel, rfl, by decide +kernel, by decide +kernel⟩
def g_law (F__law_same : FD) (F_made : FX) (F__law_made : FD) (F__law_says : FD) (F_is_move : FD) (F__law_is_move : FD) (F__law_drawn : FD) (F__law_word : FD) (F__law_mixed : FD) : FS := (gSeq (gFor (enF (aCons (fSl (fVar 0) oNone (oSome (fC (.int 20)))) aNil)) (uTup 2 (uCons (uName 1) (uCons (uName 2) uNil))) (gSeq (gSet 3 (fCall F__law_mixed (aCons (fVar 2) (aCons (fVar 1) aNil))))
    (gSeq (gSet 4 (f2 gAdd (fC (.int 2)) (f2 gMod (fVar 3) (fC (.int 7)))))
    (gSeq (gAsg (uTup 2 (uCons (uName 7) (uCons (uName 8) uNil))) (fCall F__law_drawn (aCons (fVar 4) (aCons (fCall F__law_word (aCons (f2 gDiv (fVar 3) (fC (.int 7))) (aCons (fVar 4) (aCons (fC (.int 10)) aNil)))) (aCons (f2 gDiv (fVar 3) (f2 gPow (fC (.int 10)) (fC (.int 12)))) aNil)))))
    (gSeq (gIf (tNotF (fTru (fCall F__law_says (aCons (fCall F_is_move (aCons (fVar 4) (aCons (fVar 8) aNil))) (aCons (fCall F__law_is_move (aCons (fVar 4) (aCons (fVar 8) aNil))) aNil))))) (gRet (fC (.bool false))) gNil)
    (gSeq (gSet 5 (fCall F__law_made (aCons (fVar 4) (aCons (fVar 7) (aCons (fVar 8) aNil)))))
    (gSeq (gTry "BadMove" 6 (gSetX 9 F_made (aCons (fVar 4) (aCons (fVar 7) (aCons (fVar 8) aNil)))) (fun ad => (gSeq (gIf (tOrF (fB (f2 gIsNot (fVar 5) (fC .none))) (tOrF (tNotF (fTru (fIsE ad 6 true))) (tNotF (fTru (fIsE ad 6 true))))) (gRet (fC (.bool false))) gNil)
    (gSeq (gIf (fTru (fIsE ad 6 false)) (gRet (fC (.bool false))) gNil)
    gCt))))
    (gIf (tOrF (fB (f2 gIs (fVar 5) (fC .none))) (tNotF (fTru (fCall F__law_same (aCons (fVar 9) (aCons (fVar 5) aNil)))))) (gRet (fC (.bool false))) gNil))))))))
    (gRet (fC (.bool true))))
theorem ok_law {P : Program} {w : World} {K : PySem.W.Frag} {mg : Str → Option Value} {base : Heap} {f : Addr} {fd : FuncData} {k : Nat} (F : Fun K "law" "law" s_law f fd) {F__law_same : FD} {f__law_same : Addr} {fd__law_same : FuncData} {j__law_same : Nat} (G__law_same : FnOk P w K mg base CX0 j__law_same f__law_same fd__law_same ["told", "due"] (spD K 2 F__law_same)) (l__law_same : j__law_same ≤ k) (m__law_same : mg "_law_same" = some (.ref f__law_same)) (k__law_same : PySem.W.keepIn K (.ref f__law_same) = true) (b__law_same : Binds K fd__law_same ["told", "due"] []) {F_made : FX} {f_made : Addr} {fd_made : FuncData} {j_made : Nat} (G_made : FnOk P w K mg base (L2.CX P w) j_made f_made fd_made ["strands", "word", "move"] (spX K mg 3 F_made)) (l_made : j_made ≤ k) (m_made : mg "made" = some (.ref f_made)) (k_made : PySem.W.keepIn K (.ref f_made) = true) (b_made : Binds K fd_made ["strands", "word", "move"] []) {F__law_made : FD} {f__law_made : Addr} {fd__law_made : FuncData} {j__law_made : Nat} (G__law_made : FnOk P w K mg base CX0 j__law_made f__law_made fd__law_made ["strands", "word", "move"] (spD K 3 F__law_made)) (l__law_made : j__law_made ≤ k) (m__law_made : mg "_law_made" = some (.ref f__law_made)) (k__law_made : PySem.W.keepIn K (.ref f__law_made) = true) (b__law_made : Binds K fd__law_made ["strands", "word", "move"] []) {F__law_says : FD} {f__law_says : Addr} {fd__law_says : FuncData} {j__law_says : Nat} (G__law_says : FnOk P w K mg base CX0 j__law_says f__law_says fd__law_says ["told", "due"] (spD K 2 F__law_says)) (l__law_says : j__law_says ≤ k) (m__law_says : mg "_law_says" = some (.ref f__law_says)) (k__law_says : PySem.W.keepIn K (.ref f__law_says) = true) (b__law_says : Binds K fd__law_says ["told", "due"] []) {F_is_move : FD} {f_is_move : Addr} {fd_is_move : FuncData} {j_is_move : Nat} (G_is_move : FnOk P w K mg base CX0 j_is_move f_is_move fd_is_move ["strands", "move"] (spD K 2 F_is_move)) (l_is_move : j_is_move ≤ k) (m_is_move : mg "is_move" = some (.ref f_is_move)) (k_is_move : PySem.W.keepIn K (.ref f_is_move) = true) (b_is_move : Binds K fd_is_move ["strands", "move"] []) {F__law_is_move : FD} {f__law_is_move : Addr} {fd__law_is_move : FuncData} {j__law_is_move : Nat} (G__law_is_move : FnOk P w K mg base CX0 j__law_is_move f__law_is_move fd__law_is_move ["strands", "move"] (spD K 2 F__law_is_move)) (l__law_is_move : j__law_is_move ≤ k) (m__law_is_move : mg "_law_is_move" = some (.ref f__law_is_move)) (k__law_is_move : PySem.W.keepIn K (.ref f__law_is_move) = true) (b__law_is_move : Binds K fd__law_is_move ["strands", "move"] []) {F__law_drawn : FD} {f__law_drawn : Addr} {fd__law_drawn : FuncData} {j__law_drawn : Nat} (G__law_drawn : FnOk P w K mg base CX0 j__law_drawn f__law_drawn fd__law_drawn ["strands", "word", "value"] (spD K 3 F__law_drawn)) (l__law_drawn : j__law_drawn ≤ k) (m__law_drawn : mg "_law_drawn" = some (.ref f__law_drawn)) (k__law_drawn : PySem.W.keepIn K (.ref f__law_drawn) = true) (b__law_drawn : Binds K fd__law_drawn ["strands", "word", "value"] []) {F__law_word : FD} {f__law_word : Addr} {fd__law_word : FuncData} {j__law_word : Nat} (G__law_word : FnOk P w K mg base CX0 j__law_word f__law_word fd__law_word ["value", "strands", "most"] (spD K 3 F__law_word)) (l__law_word : j__law_word ≤ k) (m__law_word : mg "_law_word" = some (.ref f__law_word)) (k__law_word : PySem.W.keepIn K (.ref f__law_word) = true) (b__law_word : Binds K fd__law_word ["value", "strands", "most"] []) {F__law_mixed : FD} {f__law_mixed : Addr} {fd__law_mixed : FuncData} {j__law_mixed : Nat} (G__law_mixed : FnOk P w K mg base CX0 j__law_mixed f__law_mixed fd__law_mixed ["cell", "turn"] (spD K 2 F__law_mixed)) (l__law_mixed : j__law_mixed ≤ k) (m__law_mixed : mg "_law_mixed" = some (.ref f__law_mixed)) (k__law_mixed : PySem.W.keepIn K (.ref f__law_mixed) = true) (b__law_mixed : Binds K fd__law_mixed ["cell", "turn"] []) {C_BadMove : Addr} (Z_BadMove : ErrC K mg "BadMove" C_BadMove) {C_BadText : Addr} (Z_BadText : ErrC K mg "BadText" C_BadText) {C_NoPlait : Addr} (Z_NoPlait : ErrC K mg "NoPlait" C_NoPlait) {C_PlaitError : Addr} (Z_PlaitError : ErrC K mg "PlaitError" C_PlaitError) (X_BadMove : ExcC K C_BadMove) (i_BadMove_BadText_NoPlait : PySem.W.kitAny K (.ref C_BadMove) [(.ref C_BadText), (.ref C_NoPlait)] = some false) (i_BadMove_PlaitError : PySem.W.kitOne K (.ref C_BadMove) (.ref C_PlaitError) = some true) (i_BadMove_ValueError : PySem.W.kitOne K (.ref C_BadMove) (.type "ValueError") = some true) (m_enumerate : mg "enumerate" = none) (m_isinstance : mg "isinstance" = none) (m_ValueError : mg "ValueError" = none) (un_law_1 : Uni 6 (fun ad => (gSeq (gIf (tOrF (fB (f2 gIsNot (fVar 5) (fC .none))) (tOrF (tNotF (fTru (fIsE ad 6 true))) (tNotF (fTru (fIsE ad 6 true))))) (gRet (fC (.bool false))) gNil)
    (gSeq (gIf (fTru (fIsE ad 6 false)) (gRet (fC (.bool false))) gNil)
    gCt)))) :
    FnOk P w K mg base CX0 (k + 1) f fd ["script"] (spD K 1 (runD 10 (g_law F__law_same F_made F__law_made F__law_says F_is_move F__law_is_move F__law_drawn F__law_word F__law_mixed))) :=
  have nd := (sc_law).nd
  def_ok F sc_law fun cdv A outer s H E hr =>
  (ss_cons (s_for (i_enum m_enumerate (a_cons (d_sl (d_var 0) p_none (p_some d_int)) a_nil)) (g_tup (n := 2) (gs_cons (g_name 1 nd) (gs_cons (g_name 2 nd) gs_nil))) (ss_cons (s_set 3 nd (d_call G__law_mixed (hr.mono l__law_mixed) m__law_mixed k__law_mixed b__law_mixed (a_cons (d_var 2) (a_cons (d_var 1) a_nil)) (al_cons (al_cons al_nil))))
    (ss_cons (s_set 4 nd (d_add d_int (d_mod (d_var 3) d_int)))
    (ss_cons (s_asg (d_call G__law_drawn (hr.mono l__law_drawn) m__law_drawn k__law_drawn b__law_drawn (a_cons (d_var 4) (a_cons (d_call G__law_word (hr.mono l__law_word) m__law_word k__law_word b__law_word (a_cons (d_div (d_var 3) d_int) (a_cons (d_var 4) (a_cons d_int a_nil))) (al_cons (al_cons (al_cons al_nil)))) (a_cons (d_div (d_var 3) (d_pow d_int d_int)) a_nil))) (al_cons (al_cons (al_cons al_nil)))) (g_tup (n := 2) (gs_cons (g_name 7 nd) (gs_cons (g_name 8 nd) gs_nil))))
    (ss_cons (s_if (t_not (t_tru (d_call G__law_says (hr.mono l__law_says) m__law_says k__law_says b__law_says (a_cons (d_call G_is_move (hr.mono l_is_move) m_is_move k_is_move b_is_move (a_cons (d_var 4) (a_cons (d_var 8) a_nil)) (al_cons (al_cons al_nil))) (a_cons (d_call G__law_is_move (hr.mono l__law_is_move) m__law_is_move k__law_is_move b__law_is_move (a_cons (d_var 4) (a_cons (d_var 8) a_nil)) (al_cons (al_cons al_nil))) a_nil)) (al_cons (al_cons al_nil))))) (ss_one (s_ret d_bl)) ss_nil)
    (ss_cons (s_set 5 nd (d_call G__law_made (hr.mono l__law_made) m__law_made k__law_made b__law_made (a_cons (d_var 4) (a_cons (d_var 7) (a_cons (d_var 8) a_nil))) (al_cons (al_cons (al_cons al_nil)))))
    (ss_cons (s_try nd Z_BadMove.g Z_BadMove.e (fun pn xe hp => (ss_one (s_setX 9 nd G_made (hr.mono l_made) m_made k_made b_made (a_cons (d_var 4) (a_cons (d_var 7) (a_cons (d_var 8) a_nil))) (al_cons (al_cons (al_cons al_nil)))))) (fun ad oe pn hz hf => (ss_cons (s_if (t_bool (w_or (t_cmp op_isnotD o_isnot (d_var 5) d_non (nomark _)) (w_or (t_not (t_tru (d_isEC X_BadMove hz hf 6 i_BadMove_PlaitError m_isinstance Z_PlaitError.g (by decide +kernel)))) (w_or1 (t_not (t_tru (d_isEB X_BadMove hz hf 6 i_BadMove_ValueError m_isinstance m_ValueError (by decide +kernel) (by decide +kernel)))))))) (ss_one (s_ret d_bl)) ss_nil)
    (ss_cons (s_if (t_tru (d_isE2 X_BadMove hz hf 6 i_BadMove_BadText_NoPlait m_isinstance Z_BadText.g Z_NoPlait.g (by decide +kernel))) (ss_one (s_ret d_bl)) ss_nil)
    (ss_one s_continue)))) un_law_1)
    (ss_one (s_if (t_bool (w_or (t_cmp op_isD o_is (d_var 5) d_non (nomark _)) (w_or1 (t_not (t_tru (d_call G__law_same (hr.mono l__law_same) m__law_same k__law_same b__law_same (a_cons (d_var 9) (a_cons (d_var 5) a_nil)) (al_cons (al_cons al_nil)))))))) (ss_one (s_ret d_bl)) ss_nil)))))))))
    (ss_one (s_ret d_bl)))
/-! ### what each def yields -/
def R_is_word : FD := runD 3 (g_is_word)
def R__is_pair : FD := runD 3 (g__is_pair)
def R__is_exchange : FD := runD 2 (g__is_exchange)
def R__is_turn : FD := runD 5 (g__is_turn)
def R_is_move : FD := runD 5 (g_is_move R__is_pair R__is_exchange R__is_turn R_is_word)
def R__stands_there : FD := runD 3 (g__stands_there)
def R_made : FX := runX 6 (g_made R__stands_there R_is_move)
def R__law_mixed : FD := runD 6 (g__law_mixed)
def R__law_word : FD := runD 7 (g__law_word)
def R__law_is_letters : FD := runD 3 (g__law_is_letters)
def R__law_is_move : FD := runD 8 (g__law_is_move R__law_is_letters)
def R__law_made : FD := runD 6 (g__law_made R__law_is_move)
def R__law_moves_there : FD := runD 6 (g__law_moves_there)
def R__law_some_move : FD := runD 5 (g__law_some_move R__law_moves_there)
def R__law_same_0 : FD := fun _ => none
def R__law_same_1 : FD := runD 3 (g__law_same R__law_same_0)
def R__law_same_2 : FD := runD 3 (g__law_same R__law_same_1)
def R__law_same : FD := R__law_same_2
def R__law_says : FD := runD 2 (g__law_says)
def R__law_letters : FD := runD 2 (g__law_letters)
def R__law_by_turns : FD := runD 4 (g__law_by_turns)
def R__law_drawn : FD := runD 7 (g__law_drawn R__law_is_letters R__law_by_turns R__law_letters R__law_some_move)
def R_law : FD := runD 10 (g_law R__law_same R_made R__law_made R__law_says R_is_move R__law_is_move R__law_drawn R__law_word R__law_mixed)
end K02
namespace K02
open PySem PySem.Spec PyProof.Rows L2 DL
def isL (s : Int) (w : Int) : Bool := decide (w ≠ 0) && decide ((if w < 0 then -w else w) < s)
theorem is_word_at {s : Int} {ws : List Int} (h : ws.length ≤ 1000) : R_is_word [.int s, wd ws] = some (.bool (ws.all (isL s))) := by
  have hz : ws.length ≤ 100000 := by omega
  simp -implicitDefEqProofs [R_is_word, runD_eq, g_is_word, hz, -List.map_map]
  rw [lcD_all (e := PyData.int) (e' := PyData.bool) (isL s)]
  · simp -implicitDefEqProofs [-List.map_map, List.all_map]
  · intro x hx; simp
  · intro x hx
    by_cases hx0 : x = 0
    · simp -implicitDefEqProofs [isL, hx0]
    · simp -implicitDefEqProofs [isL, hx0]
theorem is_letters_at {s : Int} {ws : List Int} (h : ws.length ≤ 1000) : R__law_is_letters [.int s, wd ws] = some (.bool (ws.all (isL s))) := by
  have hz : ws.length ≤ 100000 := by omega
  simp -implicitDefEqProofs [R__law_is_letters, runD_eq, g__law_is_letters, hz, -List.map_map]
  rw [lcD_gen (e := PyData.int) (e' := PyData.int) (fun w => !isL s w) (fun w => w)]
  · rw [List.map_id']
    have hodd : decide (List.filter (fun w => !isL s w) ws = []) = ws.all (isL s) := by
      rw [Bool.eq_iff_iff, decide_eq_true_iff, List.filter_eq_nil_iff, List.all_eq_true]
      constructor
      · intro q x hx
        simpa using q x hx
      · intro q x hx
        simp [q x hx]
    generalize ws.filter (fun w => !isL s w) = fl at hodd
    simp -implicitDefEqProofs [hodd]
  · intro x hx
    by_cases hx0 : x = 0
    · simp -implicitDefEqProofs [isL, hx0]
    · simp -implicitDefEqProofs [isL, hx0]
      generalize (if x < 0 then -x else x) = y
      by_cases hy : y < s
      · rw [decide_eq_true hy, decide_eq_false (by omega)]; rfl
      · rw [decide_eq_false hy, decide_eq_true (by omega)]; rfl
  · intro x hx _; simp
/-! ### moves -/
def ab (i : Int) : Int := if i < 0 then -i else i
def pairB : List Int → List Int → Bool
  | [a, b], [] => decide (a = -b)
  | [], [a, b] => decide (a = -b)
  | _, _ => false
def exB : List Int → List Int → Bool
  | [a, b], n => decide (n = [b, a]) && decide (2 ≤ ab (ab a - ab b))
  | _, _ => false
def trB : List Int → List Int → Bool
  | [a, b, c], n => decide (a = c) && (decide (n = [b, a, b]) && (decide (decide (0 < a) = decide (0 < b)) && decide (ab (a - b) = 1)))
  | _, _ => false
theorem pair_at {o n : List Int} (h1 : o.length ≤ 1000) (h2 : n.length ≤ 1000) : R__is_pair [wd o, wd n] = some (.bool (pairB o n)) := by
  rcases o with _ | ⟨a, _ | ⟨b, _ | ⟨c, o⟩⟩⟩ <;> rcases n with _ | ⟨x, _ | ⟨y, _ | ⟨z, n⟩⟩⟩ <;> simp -implicitDefEqProofs [R__is_pair, runD_eq, g__is_pair, pairB]
  · have h3 : ¬ ((n.length : Int) + 1 + 1 + 1 = 2) := by omega
    rw [if_neg h3, decide_eq_false h3]
    simp at h2
    exact ⟨by omega, rfl⟩
  · have h3 : ¬ ((o.length : Int) + 1 + 1 + 1 = 2) := by omega
    rw [if_neg h3, decide_eq_false h3]
    simp at h1
    exact ⟨by omega, rfl⟩
theorem exch_at {o n : List Int} (h1 : o.length ≤ 1000) (h2 : n.length ≤ 1000) : R__is_exchange [wd o, wd n] = some (.bool (exB o n)) := by
  rcases o with _ | ⟨a, _ | ⟨b, _ | ⟨c, o⟩⟩⟩ <;> simp -implicitDefEqProofs [R__is_exchange, runD_eq, g__is_exchange, exB]
  · have e2 : (wd n).eqv (.tuple [.int b, .int a]) = decide (n = [b, a]) := eqv_ints_t (ms := [b, a])
    have s2 : SeqAt.shaped (.tuple [.int b, .int a]) = true := shaped_ints_t (ns := [b, a])
    rw [e2, s2]
    refine ⟨rfl, ?_⟩
    by_cases hn : n = [b, a]
    · rw [if_pos (decide_eq_true hn), decide_eq_true hn]
      rfl
    · rw [decide_eq_false hn, if_neg Bool.false_ne_true]
      rfl
  · have h3 : ¬ ((o.length : Int) + 1 + 1 + 1 = 2) := by omega
    rw [if_neg h3, decide_eq_false h3]
theorem turn_at {o n : List Int} (h1 : o.length ≤ 1000) (h2 : n.length ≤ 1000) : R__is_turn [wd o, wd n] = some (.bool (trB o n)) := by
  rcases o with _ | ⟨a, _ | ⟨b, _ | ⟨c, _ | ⟨d, o⟩⟩⟩⟩ <;> simp -implicitDefEqProofs [R__is_turn, runD_eq, g__is_turn, trB]
  · have e2 : (wd n).eqv (.tuple [.int b, .int a, .int b]) = decide (n = [b, a, b]) := eqv_ints_t (ms := [b, a, b])
    have s2 : SeqAt.shaped (.tuple [.int b, .int a, .int b]) = true := shaped_ints_t (ns := [b, a, b])
    rw [e2, s2]
    by_cases hac : a = c
    · rw [if_pos hac, if_pos rfl, decide_eq_true hac]
      by_cases hn : n = [b, a, b]
      · rw [decide_eq_true hn, if_neg (by simp)]
        by_cases hp : (0 < a ↔ 0 < b)
        · rw [if_pos hp]
          have : (decide (0 < a) == decide (0 < b)) = true := by simp [hp]
          rw [this]
          rfl
        · rw [if_neg hp]
          have : (decide (0 < a) == decide (0 < b)) = false := by
            rw [beq_eq_false_iff_ne]
            intro q
            exact hp (by simpa using q)
          rw [this]
          rfl
      · rw [decide_eq_false hn, if_pos rfl]
        rfl
    · rw [if_neg hac, decide_eq_false hac]
      rfl
  · omega
def mvB (s : Int) (o n : List Int) : Bool := o.all (isL s) && (n.all (isL s) && (pairB o n || (exB o n || trB o n)))
theorem is_move_at {s p : Int} {o n : List Int} (h1 : o.length ≤ 1000) (h2 : n.length ≤ 1000) : R_is_move [.int s, .tuple [.int p, wd o, wd n]] = some (.bool (mvB s o n)) := by
  have q1 := is_word_at (s := s) h1
  have q2 := is_word_at (s := s) h2
  have q3 := pair_at h1 h2
  have q4 := exch_at h1 h2
  have q5 := turn_at h1 h2
  unfold mvB
  generalize o.all (isL s) = A at q1 ⊢
  generalize n.all (isL s) = B at q2 ⊢
  generalize pairB o n = C at q3 ⊢
  generalize exB o n = D at q4 ⊢
  generalize trB o n = E at q5 ⊢
  simp -implicitDefEqProofs [R_is_move, runD_eq, g_is_move, q1, q2, q3, q4, q5]
  cases A <;> cases B <;> cases C <;> cases D <;> cases E <;> simp -implicitDefEqProofs
/-! ### the law's own words -/
theorem law_is_move_at {s p : Int} {o n : List Int} (hs : s ≤ 1000) (h1 : o.length ≤ 1000) (h2 : n.length ≤ 1000) : R__law_is_move [.int s, .tuple [.int p, wd o, wd n]] = some (.bool (mvB s o n)) := by
  have q1 := is_letters_at (s := s) h1
  have q2 := is_letters_at (s := s) h2
  unfold mvB
  cases hA : o.all (isL s)
  · rw [hA] at q1
    simp -implicitDefEqProofs [R__law_is_move, runD_eq, g__law_is_move, q1]
  cases hB : n.all (isL s)
  · rw [hA] at q1
    rw [hB] at q2
    simp -implicitDefEqProofs [R__law_is_move, runD_eq, g__law_is_move, q1, q2]
  rw [hA] at q1
  rw [hB] at q2
  have ho : ∀ w ∈ o, w ≠ 0 ∧ -s < w ∧ w < s := fun w hw => by
    have := List.all_eq_true.mp hA w hw
    unfold isL at this
    rw [Bool.and_eq_true, decide_eq_true_iff, decide_eq_true_iff] at this
    refine ⟨this.1, ?_⟩
    have := this.2
    split at this <;> omega
  have cm : ∀ a ∈ o, ∀ b ∈ o, CMul a b := fun a ha b hb => by
    have := ho a ha
    refine .inl ⟨?_, ?_⟩ <;> omega
  clear hA hB
  simp -implicitDefEqProofs [R__law_is_move, runD_eq, g__law_is_move, q1, q2]
  clear q1 q2
  rcases o with _ | ⟨a, _ | ⟨b, _ | ⟨c, _ | ⟨d, o⟩⟩⟩⟩ <;> rcases n with _ | ⟨x, _ | ⟨y, _ | ⟨z, _ | ⟨t, n⟩⟩⟩⟩ <;> simp -implicitDefEqProofs [wd, SeqAt.shaped, PyData.canLay0, PyData.canLayAll0, PyData.depth, PyData.depthAll, lay_ints, depth_ints, PyData.eqv, PyData.eqvAll, pairB, exB, trB, cm]
  · omega
  · rw [if_neg (by omega), decide_eq_false (by omega)]
    simp at h2
    exact ⟨by omega, rfl⟩
  · omega
  · have e1 : (1 < if ((if a < 0 then -a else a) - if b < 0 then -b else b) < 0 then -((if a < 0 then -a else a) - if b < 0 then -b else b) else (if a < 0 then -a else a) - if b < 0 then -b else b) ↔ 2 ≤ ab (ab a - ab b) := by
      unfold ab
      omega
    by_cases hq : 2 ≤ ab (ab a - ab b)
    · rw [if_pos (e1.mpr hq), decide_eq_true hq]
      by_cases h3 : a = y <;> by_cases h4 : b = x <;> simp [h3, h4, eq_comm]
    · rw [if_neg (fun z => hq (e1.mp z)), decide_eq_false hq, decide_eq_false (fun z => hq (e1.mp z))]
      simp
  · omega
  · have e1 : (0 < a * b) ↔ (decide (0 < a) == decide (0 < b)) = true := by
      have ha := (ho a (by simp)).1
      have hb := (ho b (by simp)).1
      rcases Int.lt_or_gt_of_ne ha with q | q <;> rcases Int.lt_or_gt_of_ne hb with r | r
      · have := Int.mul_pos_of_neg_of_neg q r
        have q' : ¬ 0 < a := by omega
        have r' : ¬ 0 < b := by omega
        simp [q', r', this]
      · have := Int.mul_neg_of_neg_of_pos q r
        have q' : ¬ 0 < a := by omega
        have t : ¬ 0 < a * b := by omega
        simp [q', t, show 0 < b from r]
      · have := Int.mul_neg_of_pos_of_neg q r
        have r' : ¬ 0 < b := by omega
        have t : ¬ 0 < a * b := by omega
        simp [r', t, show 0 < a from q]
      · have := Int.mul_pos q r
        simp [this, show 0 < a from q, show 0 < b from r]
    have e2 : (if a - b < 0 then -(a - b) else a - b) = ab (a - b) := rfl
    rw [e2]
    generalize ab (a - b) = m
    generalize (decide (0 < a) == decide (0 < b)) = S at e1 ⊢
    by_cases h3 : 0 < a * b
    · have hS := e1.mp h3
      subst hS
      simp only [if_pos h3]
      have i1 : decide (x = b) = decide (b = x) := by simp [eq_comm]
      have i2 : decide (y = a) = decide (a = y) := by simp [eq_comm]
      have i3 : decide (b = x) = true → decide (z = b) = decide (x = z) := fun q => by
        have := of_decide_eq_true q
        subst this
        simp [eq_comm]
      rw [i1, i2]
      cases hd : decide (b = x)
      · by_cases h4 : a = c <;> by_cases h5 : x = z <;> by_cases h6 : m = 1 <;> by_cases h7 : a = y <;> simp only [if_pos, if_neg, decide_eq_true, decide_eq_false, h4, h5, h6, h7, if_true, if_false, decide_true, decide_false, Bool.false_and, Bool.and_false, Bool.true_and, not_false_eq_true] <;> (repeat' split) <;> simp_all
      · rw [i3 hd]
        by_cases h4 : a = c <;> by_cases h5 : x = z <;> by_cases h6 : m = 1 <;> by_cases h7 : a = y <;> simp only [h4, h5, h6, h7, if_true, if_false, decide_true, decide_false, Bool.false_and, Bool.and_false, Bool.true_and, Bool.and_true, Bool.and_self] <;> (repeat' split) <;> simp_all
    · have hS : S = false := by
        cases S with
        | false => rfl
        | true => exact absurd (e1.mpr rfl) h3
      subst hS
      simp only [if_neg h3, decide_eq_false h3]
      simp
  · omega
  · rw [if_neg (by omega), decide_eq_false (by omega)]
    simp at h1
    exact ⟨by omega, rfl⟩
  · omega
  · omega
  · have t1 : ¬ ((o.length : Int) + 1 + 1 + 1 + 1 = 2) := by omega
    have t2 : ¬ ((o.length : Int) + 1 + 1 + 1 + 1 = 3) := by omega
    rw [if_neg t1, if_neg t2]
end K02
namespace K02
open PySem PySem.Spec PyProof.Rows L2 DL
def stB (ws : List Int) (p : Int) (o : List Int) : Bool := decide (0 ≤ p) && (decide (p ≤ ws.length) && decide ((ws.drop p.toNat).take o.length = o))
def mk (ws : List Int) (p : Int) (o n : List Int) : List Int := ws.take p.toNat ++ (n ++ ws.drop (p.toNat + o.length))
theorem mid {ws : List Int} {p : Int} {k : Nat} (h : 0 ≤ p) : cutD (ws.map PyData.int) (some p) (some (p + (k : Int))) = ((ws.drop p.toNat).take k).map PyData.int := by
  rw [cut_map, cut_mid h (by omega)]
  congr 2
  omega
theorem stands_at {ws o : List Int} {p : Int} (h1 : ws.length ≤ 1000) (h2 : o.length ≤ 1000) : R__stands_there [wd ws, .int p, wd o] = some (.bool (stB ws p o)) := by
  unfold stB
  by_cases hp : 0 ≤ p
  · have e := mid (ws := ws) (k := o.length) hp
    by_cases hq : p ≤ ws.length
    · simp -implicitDefEqProofs [R__stands_there, runD_eq, g__stands_there, hp, hq, e, -List.map_take, -List.map_drop]
    · simp -implicitDefEqProofs [R__stands_there, runD_eq, g__stands_there, hp, hq]
  · simp -implicitDefEqProofs [R__stands_there, runD_eq, g__stands_there, hp]
theorem made_at {s p : Int} {ws o n : List Int} (h1 : ws.length ≤ 1000) (h2 : o.length ≤ 1000) (h3 : n.length ≤ 1000) : R_made [.int s, wd ws, .tuple [.int p, wd o, wd n]] = some (if (mvB s o n && stB ws p o) = true then .ok (wd (mk ws p o n)) else .ex "BadMove") := by
  have q1 := is_move_at (s := s) (p := p) h2 h3
  have q2 := stands_at (p := p) h1 h2
  cases hA : mvB s o n
  · rw [hA] at q1
    simp -implicitDefEqProofs [R_made, runX_eq, g_made, q1]
  · cases hB : stB ws p o
    · rw [hA] at q1
      rw [hB] at q2
      simp -implicitDefEqProofs [R_made, runX_eq, g_made, q1, q2]
    · rw [hA] at q1
      rw [hB] at q2
      have hp : 0 ≤ p := by
        unfold stB at hB
        exact of_decide_eq_true (Bool.and_eq_true_iff.mp hB).1
      have t1 : cutD (ws.map PyData.int) none (some p) = (ws.take p.toNat).map PyData.int := by rw [cut_map, cut_to hp]
      have t2 : cutD (ws.map PyData.int) (some (p + (o.length : Int))) none = (ws.drop (p.toNat + o.length)).map PyData.int := by
        rw [cut_map, cut_from (by omega)]
        congr 2
        omega
      simp -implicitDefEqProofs [R_made, runX_eq, g_made, q1, q2, t1, t2, mk, wd, -List.map_take, -List.map_drop]
      omega
def lawmk (s : Int) (ws : List Int) (p : Int) (o n : List Int) : PyData := if (mvB s o n && stB ws p o) = true then wd (mk ws p o n) else .none
theorem law_made_at {s p : Int} {ws o n : List Int} (hs : s ≤ 1000) (h1 : ws.length ≤ 1000) (h2 : o.length ≤ 1000) (h3 : n.length ≤ 1000) : R__law_made [.int s, wd ws, .tuple [.int p, wd o, wd n]] = some (lawmk s ws p o n) := by
  have q1 := law_is_move_at (s := s) (p := p) hs h2 h3
  unfold lawmk
  cases hA : mvB s o n
  · rw [hA] at q1
    simp -implicitDefEqProofs [R__law_made, runD_eq, g__law_made, q1]
  · rw [hA] at q1
    by_cases hp : 0 ≤ p
    · have t1 : cutD (ws.map PyData.int) none (some p) = (ws.take p.toNat).map PyData.int := by rw [cut_map, cut_to hp]
      have t2 : cutD (ws.map PyData.int) (some (p + (o.length : Int))) none = (ws.drop (p.toNat + o.length)).map PyData.int := by
        rw [cut_map, cut_from (by omega)]
        congr 2
        omega
      have e := mid (ws := ws) (k := o.length) hp
      have hp' : ¬ p < 0 := by omega
      by_cases hq : p ≤ ws.length
      · have hq' : ¬ (ws.length : Int) < p := by omega
        by_cases hr : (ws.drop p.toNat).take o.length = o
        · have hB : stB ws p o = true := by
            unfold stB
            rw [decide_eq_true hp, decide_eq_true hq, decide_eq_true hr]
            rfl
          rw [hB]
          simp -implicitDefEqProofs [R__law_made, runD_eq, g__law_made, q1, hp', hq', e, hr, t1, t2, mk, wd, -List.map_take, -List.map_drop]
          omega
        · have hB : stB ws p o = false := by
            unfold stB
            rw [decide_eq_true hp, decide_eq_true hq, decide_eq_false hr]
            rfl
          rw [hB]
          simp -implicitDefEqProofs [R__law_made, runD_eq, g__law_made, q1, hp', hq', e, hr, -List.map_take, -List.map_drop]
      · have hq' : (ws.length : Int) < p := by omega
        have hB : stB ws p o = false := by
          unfold stB
          rw [decide_eq_false hq]
          simp
        rw [hB]
        simp -implicitDefEqProofs [R__law_made, runD_eq, g__law_made, q1, hp', hq']
    · have hp' : p < 0 := by omega
      have hB : stB ws p o = false := by
        unfold stB
        rw [decide_eq_false hp]
        rfl
      rw [hB]
      simp -implicitDefEqProofs [R__law_made, runD_eq, g__law_made, q1, hp']
end K02
namespace K02
open PySem PySem.Spec PyProof.Rows L2 DL
def ltr (v : Int) (k : Nat) : Int := v / (if k = 0 then 4 else if k = 1 then 44 else 484) % 11 - 5
theorem letters_at {v : Int} : ∃ ws : List Int, ws.length ≤ 3 ∧ R__law_letters [.int v] = some (wd ws) := by
  have h1 := Int.emod_nonneg v (show (4 : Int) ≠ 0 by omega)
  have h2 := Int.emod_lt_of_pos v (show (0 : Int) < 4 by omega)
  refine ⟨(List.range (v % 4).toNat).map (ltr v), by rw [List.length_map, List.length_range]; omega, ?_⟩
  simp -implicitDefEqProofs [R__law_letters, runD_eq, g__law_letters, -List.map_map]
  rw [rg1_ok (by omega) (by omega), Option.bind_some, if_pos (by rw [rgD_len]; omega)]
  rw [rgD0, lcD_all (e := fun i : Nat => PyData.int (i : Int)) (e' := PyData.int) (ltr v)]
  · simp -implicitDefEqProofs [-List.map_map]
  · intro x hx; simp
  · intro x hx
    have hx' : x < 3 := by have := List.mem_range.mp hx; omega
    match x, hx' with
    | 0, _ => simp -implicitDefEqProofs [ltr]
    | 1, _ => simp -implicitDefEqProofs [ltr]
    | 2, _ => simp -implicitDefEqProofs [ltr]
theorem sign_at {v : Int} : ∃ e : Int, (e = 1 ∨ e = -1) ∧ atI [PyData.int 1, PyData.int (-1)] (v % 2) = some (.int e) := by
  have h1 := Int.emod_nonneg v (show (2 : Int) ≠ 0 by omega)
  have h2 := Int.emod_lt_of_pos v (show (0 : Int) < 2 by omega)
  rcases (show v % 2 = 0 ∨ v % 2 = 1 by omega) with q | q
  · exact ⟨1, .inl rfl, by rw [q]; simp⟩
  · exact ⟨-1, .inr rfl, by rw [q]; simp⟩
theorem by_turns_at {s v : Int} (hs : 2 ≤ s) (hs2 : s ≤ 1000) : ∃ a b : Int, R__law_by_turns [.int s, .int v] = some (.tuple [wd [a, b, a], wd [b, a, b]]) := by
  obtain ⟨e1, f1, g1⟩ := sign_at (v := v / 7)
  obtain ⟨e2, f2, g2⟩ := sign_at (v := v / 98)
  obtain ⟨e3, f3, g3⟩ := sign_at (v := v / 14)
  have h1 := Int.emod_nonneg v (show s - 1 ≠ 0 by omega)
  have h2 := Int.emod_lt_of_pos v (show 0 < s - 1 by omega)
  have h3 := Int.emod_nonneg (v / 14) (show s - 1 ≠ 0 by omega)
  have h4 := Int.emod_lt_of_pos (v / 14) (show 0 < s - 1 by omega)
  have c1 : CMul (1 + v % (s - 1)) e1 := .inl ⟨by omega, by omega⟩
  have c2 : CMul (1 + v / 14 % (s - 1)) e2 := .inl ⟨by omega, by omega⟩
  have c3 : ∀ x : Int, CMul x e2 := fun x => .inr ⟨by omega, by omega⟩
  by_cases hq : 0 < v / 196 % 4
  · refine ⟨(1 + v % (s - 1)) * e1, ((if (1 + v % (s - 1)) * e1 < 0 then -((1 + v % (s - 1)) * e1) else (1 + v % (s - 1)) * e1) + e3) * e2, ?_⟩
    simp -implicitDefEqProofs [R__law_by_turns, runD_eq, g__law_by_turns, g1, g2, g3, c1, c2, c3, hq, wd]
    omega
  · refine ⟨(1 + v % (s - 1)) * e1, (1 + v / 14 % (s - 1)) * e2, ?_⟩
    simp -implicitDefEqProofs [R__law_by_turns, runD_eq, g__law_by_turns, g1, g2, g3, c1, c2, c3, hq, wd]
    omega
abbrev Mv := Int × List Int × List Int
def mvD (m : Mv) : PyData := .tuple [.int m.1, wd m.2.1, wd m.2.2]
def Good (m : Mv) : Prop := 0 ≤ m.1 ∧ m.1 ≤ 1000 ∧ m.2.1.length ≤ 3 ∧ m.2.2.length ≤ 3
theorem goods {ms : List Mv} {m : Mv} (h : ∀ m ∈ ms, Good m) (g : Good m) : ∀ x ∈ ms ++ [m], Good x := fun x hx => by
  rcases List.mem_append.mp hx with q | q
  · exact h x q
  · rw [List.mem_singleton.mp q]; exact g
def sl (s : Int) (ws : List Int) (i : Nat) (ms : List Mv) (y z : Slot) : Rho := [.d (.int s), .d (wd ws), .own (ms.map mvD), .d (.int (i : Int)), y, z]
theorem there_at {s : Int} {ws : List Int} (h1 : ws.length ≤ 1000) (hw : ∀ w ∈ ws, -1000 < w ∧ w < 1000) : ∃ ms : List Mv, (∀ m ∈ ms, Good m) ∧ ms.length ≤ 3000 ∧ R__law_moves_there [.int s, wd ws] = some (.list (ms.map mvD)) := by
  have key : ∃ d, R__law_moves_there [.int s, wd ws] = some d ∧ ∃ ms : List Mv, d = .list (ms.map mvD) ∧ (∀ m ∈ ms, Good m) ∧ ms.length ≤ 3000 := by
    simp -implicitDefEqProofs [R__law_moves_there, runD_eq, g__law_moves_there, Option.bind_assoc, -Prod.forall]
    rw [rg1_nat (by omega), Option.bind_some]
    refine forD_ex (fun i ρ => ∃ (ms : List Mv) (x y z : Slot), ρ = [.d (.int s), .d (wd ws), .own (ms.map mvD), x, y, z] ∧ (∀ m ∈ ms, Good m) ∧ ms.length ≤ 3 * i ∧ i ≤ 1000) ⟨[], _, _, _, rfl, by simp, by simp, by omega⟩ ?_ ?_
    · rintro i x ρ hi ⟨ms, x1, y1, z1, rfl, hg, hl, hb⟩
      obtain ⟨h5, rfl⟩ := rgD_get hi
      rw [Int.zero_add]
      have e2 : cutD (ws.map PyData.int) (some (i : Int)) (some ((i : Int) + 2)) = ((ws.drop i).take 2).map PyData.int := mid (p := (i : Int)) (k := 2) (by omega)
      have e3 : cutD (ws.map PyData.int) (some (i : Int)) (some ((i : Int) + 3)) = ((ws.drop i).take 3).map PyData.int := mid (p := (i : Int)) (k := 3) (by omega)
      have p2 : ((ws.drop i).take 2).length ≤ 2 := List.length_take_le _ _
      have p3 : ((ws.drop i).take 3).length ≤ 3 := List.length_take_le _ _
      have w3 : ∀ w ∈ (ws.drop i).take 3, -1000 < w ∧ w < 1000 := fun w h => hw w (List.mem_of_mem_drop (List.mem_of_mem_take h))
      generalize (ws.drop i).take 2 = P at e2 p2
      generalize (ws.drop i).take 3 = T at e3 p3 w3
      have hT : (∃ a b c, T = [a, b, c]) ∨ T.length ≠ 3 := by
        rcases T with _ | ⟨a, _ | ⟨b, _ | ⟨c, _ | ⟨d, T⟩⟩⟩⟩
        · exact .inr (by simp)
        · exact .inr (by simp)
        · exact .inr (by simp)
        · exact .inl ⟨_, _, _, rfl⟩
        · exact .inr (by simp)
      have hP : (∃ a b, P = [a, b]) ∨ P.length ≠ 2 := by
        rcases P with _ | ⟨a, _ | ⟨b, _ | ⟨c, P⟩⟩⟩
        · exact .inr (by simp)
        · exact .inr (by simp)
        · exact .inl ⟨_, _, rfl⟩
        · exact .inr (by simp)
      refine goes_at (ρ1 := sl s ws i ms y1 z1) rfl ?_
      refine goes_seq (fun ρ => ρ = sl s ws i ms (.d (wd P)) z1) ⟨_, by simp -implicitDefEqProofs [sl, e2, -List.map_map], rfl⟩ ?_
      rintro ρ rfl
      refine goes_seq (fun ρ => ∃ ms : List Mv, ρ = sl s ws i ms (.d (wd P)) z1 ∧ (∀ m ∈ ms, Good m) ∧ ms.length ≤ 3 * i + 1) ?_ ?_
      · have sm1 : ms.length ≤ 100000 := by omega
        rcases hP with ⟨a, b, rfl⟩ | hP
        · by_cases c1 : a + b = 0
          · refine ⟨_, ?_, ms ++ [((i : Int), [a, b], [])], rfl, goods hg ⟨by show (0 : Int) ≤ i; omega, by show (i : Int) ≤ 1000; omega, by simp, by simp⟩, by simp; omega⟩
            simp -implicitDefEqProofs [sl, -List.map_map, c1, sm1, mvD]
          · refine ⟨_, ?_, ms, rfl, hg, by omega⟩
            simp -implicitDefEqProofs [sl, -List.map_map, c1]
        · have hP' : ¬ (P.length : Int) = 2 := by omega
          refine ⟨_, ?_, ms, rfl, hg, by omega⟩
          simp -implicitDefEqProofs [sl, -List.map_map, hP']
      rintro ρ ⟨ms, rfl, hg, hl⟩
      refine goes_seq (fun ρ => ∃ ms : List Mv, ρ = sl s ws i ms (.d (wd P)) z1 ∧ (∀ m ∈ ms, Good m) ∧ ms.length ≤ 3 * i + 2) ?_ ?_
      · have sm1 : ms.length ≤ 100000 := by omega
        rcases hP with ⟨a, b, rfl⟩ | hP
        · by_cases c1 : 1 < if ((if a < 0 then -a else a) - if b < 0 then -b else b) < 0 then -((if a < 0 then -a else a) - if b < 0 then -b else b) else (if a < 0 then -a else a) - if b < 0 then -b else b
          · refine ⟨_, ?_, ms ++ [((i : Int), [a, b], [b, a])], rfl, goods hg ⟨by show (0 : Int) ≤ i; omega, by show (i : Int) ≤ 1000; omega, by simp, by simp⟩, by simp; omega⟩
            simp -implicitDefEqProofs [sl, -List.map_map, c1, sm1, mvD]
          · refine ⟨_, ?_, ms, rfl, hg, by omega⟩
            simp -implicitDefEqProofs [sl, -List.map_map, c1]
        · have hP' : ¬ (P.length : Int) = 2 := by omega
          refine ⟨_, ?_, ms, rfl, hg, by omega⟩
          simp -implicitDefEqProofs [sl, -List.map_map, hP']
      rintro ρ ⟨ms, rfl, hg, hl⟩
      refine goes_seq (fun ρ => ρ = sl s ws i ms (.d (wd P)) (.d (wd T))) ⟨_, by simp -implicitDefEqProofs [sl, e3, -List.map_map], rfl⟩ ?_
      rintro ρ rfl
      refine goes_one ?_
      have sm1 : ms.length ≤ 100000 := by omega
      rcases hT with ⟨a, b, c, rfl⟩ | hT
      · have cm : CMul a b := .inl ⟨by have := w3 a (by simp); omega, by have := w3 a (by simp); omega⟩
        by_cases c1 : a = c
        · by_cases c2 : (if a - b < 0 then -(a - b) else a - b) = 1
          · by_cases c3 : 0 < a * b
            · refine ⟨sl s ws i (ms ++ [((i : Int), [a, b, c], [b, a, b])]) (.d (wd P)) (.d (wd [a, b, c])), ?_, ms ++ [((i : Int), [a, b, c], [b, a, b])], _, _, _, rfl, goods hg ⟨by show (0 : Int) ≤ i; omega, by show (i : Int) ≤ 1000; omega, by simp, by simp⟩, by simp; omega, by omega⟩
              subst c1
              simp -implicitDefEqProofs [sl, -List.map_map, c2, c3, cm, sm1, mvD]
            · refine ⟨sl s ws i ms (.d (wd P)) (.d (wd [a, b, c])), ?_, ms, _, _, _, rfl, hg, by omega, by omega⟩
              subst c1
              simp -implicitDefEqProofs [sl, -List.map_map, c2, c3, cm]
          · refine ⟨sl s ws i ms (.d (wd P)) (.d (wd [a, b, c])), ?_, ms, _, _, _, rfl, hg, by omega, by omega⟩
            subst c1
            simp -implicitDefEqProofs [sl, -List.map_map, c2, cm]
        · refine ⟨sl s ws i ms (.d (wd P)) (.d (wd [a, b, c])), ?_, ms, _, _, _, rfl, hg, by omega, by omega⟩
          simp -implicitDefEqProofs [sl, -List.map_map, c1, cm]
      · have hT' : ¬ (T.length : Int) = 3 := by omega
        refine ⟨sl s ws i ms (.d (wd P)) (.d (wd T)), ?_, ms, _, _, _, rfl, hg, by omega, by omega⟩
        simp -implicitDefEqProofs [sl, -List.map_map, hT']
    · rintro ρ ⟨ms, x, y, z, rfl, hg, hl, hb⟩
      rw [rgD_len] at hl hb
      exact ⟨_, rfl, ms, rfl, hg, by omega⟩
  obtain ⟨d, e, ms, rfl, hg, hl⟩ := key
  exact ⟨ms, hg, hl, e⟩
theorem shaped_moves {ms : List Mv} : SeqAt.shaped (.list (ms.map mvD)) = true := by
  have h1 : PyData.canLayAll0 (ms.map mvD) = true := by
    induction ms with
    | nil => simp [PyData.canLayAll0]
    | cons m ms ih => simp [PyData.canLayAll0, PyData.canLay0, mvD, lay_ints, ih]
  have h2 : PyData.depthAll (ms.map mvD) ≤ 2 := by
    induction ms with
    | nil => simp [PyData.depthAll]
    | cons m ms ih =>
      have := ih (by simpa [PyData.canLayAll0, PyData.canLay0, mvD, lay_ints] using h1)
      simp [PyData.depthAll, PyData.depth, mvD, depth_ints]
      omega
  simp [SeqAt.shaped, PyData.canLay0, PyData.depth, h1]
  omega
theorem eqv_moves {ms : List Mv} : PyData.eqv (.list (ms.map mvD)) (.list []) = decide (ms = []) := by
  cases ms <;> simp [PyData.eqv, PyData.eqvAll]
theorem eqv_ll : (PyData.list []).eqv (.list []) = true := by simp [PyData.eqv, PyData.eqvAll]
theorem some_move_at {s v : Int} {ws : List Int} (hs1 : 2 ≤ s) (hs2 : s ≤ 1000) (h1 : ws.length ≤ 1000) (hw : ∀ w ∈ ws, -1000 < w ∧ w < 1000) : ∃ m : Mv, Good m ∧ R__law_some_move [.int s, wd ws, .int v] = some (mvD m) := by
  obtain ⟨ms, hg, hl, e⟩ := there_at (s := s) h1 hw
  have a1 := Int.emod_nonneg (v / 80) (show ((ws.length : Nat) : Int) + 1 ≠ 0 by omega)
  have a2 := Int.emod_lt_of_pos (v / 80) (show 0 < ((ws.length : Nat) : Int) + 1 by omega)
  obtain ⟨e1, f1, g1⟩ := sign_at (v := v / 40)
  have c1 : ∀ x, CMul x e1 := fun x => .inr ⟨by omega, by omega⟩
  by_cases hq : ms = [] ∨ v % 5 < 2
  · refine ⟨(v / 80 % ((ws.length : Int) + 1), [], [(1 + v / 5 % (s - 1)) * e1, -((1 + v / 5 % (s - 1)) * e1)]), ⟨a1, by show v / 80 % ((ws.length : Int) + 1) ≤ 1000; omega, by simp, by simp⟩, ?_⟩
    have hs' : 0 < s - 1 := by omega
    rcases hq with hq | hq
    · simp -implicitDefEqProofs [R__law_some_move, runD_eq, g__law_some_move, e, shaped_moves, eqv_ll, eqv_moves, hq, g1, c1, mvD, wd, -List.map_map]
      omega
    · by_cases hm : ms = []
      · simp -implicitDefEqProofs [R__law_some_move, runD_eq, g__law_some_move, e, shaped_moves, eqv_ll, eqv_moves, hm, g1, c1, mvD, wd, -List.map_map]
        omega
      · simp -implicitDefEqProofs [R__law_some_move, runD_eq, g__law_some_move, e, shaped_moves, eqv_ll, eqv_moves, hq, hm, g1, c1, mvD, wd, -List.map_map]
        omega
  · have hm : ms ≠ [] := fun z => hq (.inl z)
    have hv : ¬ v % 5 < 2 := fun z => hq (.inr z)
    have hlen : 0 < ms.length := List.length_pos_iff.mpr hm
    have b1 := Int.emod_nonneg (v / 5) (show ((ms.length : Nat) : Int) ≠ 0 by omega)
    have b2 := Int.emod_lt_of_pos (v / 5) (show 0 < ((ms.length : Nat) : Int) by omega)
    have hlt : (v / 5 % (ms.length : Int)).toNat < ms.length := by omega
    refine ⟨ms[(v / 5 % (ms.length : Int)).toNat], hg _ (List.getElem_mem hlt), ?_⟩
    have g2 : atI (ms.map mvD) (v / 5 % (ms.length : Int)) = some (mvD ms[(v / 5 % (ms.length : Int)).toNat]) := by
      rw [at_pos b1, List.getElem?_map, List.getElem?_eq_getElem hlt]
      rfl
    simp -implicitDefEqProofs [R__law_some_move, runD_eq, g__law_some_move, e, shaped_moves, eqv_moves, hv, hm, -List.map_map, g2]
theorem drawn_at {s v : Int} {ws : List Int} (hs1 : 2 ≤ s) (hs2 : s ≤ 1000) (h1 : ws.length ≤ 100) (hw : ∀ w ∈ ws, -1000 < w ∧ w < 1000) : ∃ (us : List Int) (p : Int) (o n : List Int), us.length ≤ 400 ∧ o.length ≤ 400 ∧ n.length ≤ 400 ∧ R__law_drawn [.int s, wd ws, .int v] = some (.tuple [wd us, .tuple [.int p, wd o, wd n]]) := by
  obtain ⟨⟨p, o, n⟩, ⟨g1, g2, g3, g4⟩, e⟩ := some_move_at (v := v / 9) hs1 hs2 (show ws.length ≤ 1000 by omega) hw
  dsimp only at g1 g2 g3 g4
  simp only [mvD] at e
  obtain ⟨x, x1, x2⟩ := letters_at (v := v / 9)
  obtain ⟨y, y1, y2⟩ := letters_at (v := v / 9 / 5324)
  obtain ⟨a, b, t1⟩ := by_turns_at (v := v / 9) hs1 hs2
  have q1 := is_letters_at (s := s) (ws := [a, b, a]) (by simp)
  have k1 := Int.emod_nonneg v (show (9 : Int) ≠ 0 by omega)
  have k2 := Int.emod_lt_of_pos v (show (0 : Int) < 9 by omega)
  have r1 : cutD (ws.map PyData.int) none (some p) = (ws.take p.toNat).map PyData.int := by rw [cut_map, cut_to g1]
  have r2 : cutD (ws.map PyData.int) (some p) none = (ws.drop p.toNat).map PyData.int := by rw [cut_map, cut_from g1]
  obtain ⟨k, hk⟩ : ∃ k, k = v % 9 := ⟨_, rfl⟩
  rw [← hk] at k1 k2
  rcases (show k = 0 ∨ k = 1 ∨ k = 2 ∨ k = 3 ∨ k = 4 ∨ k = 5 ∨ k = 6 ∨ k = 7 ∨ k = 8 by omega) with z | z | z | z | z | z | z | z | z <;> subst z
  · refine ⟨ws, v / 9 % ((ws.length : Int) + 8) - 3, o, n, by omega, by omega, by omega, ?_⟩
    simp -implicitDefEqProofs [R__law_drawn, runD_eq, g__law_drawn, e, ← hk]
    omega
  · refine ⟨ws, p, n, o, by omega, by omega, by omega, ?_⟩
    simp -implicitDefEqProofs [R__law_drawn, runD_eq, g__law_drawn, e, ← hk]
  · refine ⟨ws, p, o, x, by omega, by omega, by omega, ?_⟩
    simp -implicitDefEqProofs [R__law_drawn, runD_eq, g__law_drawn, e, ← hk, x2]
  · refine ⟨ws, p, x, n, by omega, by omega, by omega, ?_⟩
    simp -implicitDefEqProofs [R__law_drawn, runD_eq, g__law_drawn, e, ← hk, x2]
  · refine ⟨ws, p, x, y, by omega, by omega, by omega, ?_⟩
    simp -implicitDefEqProofs [R__law_drawn, runD_eq, g__law_drawn, e, ← hk, x2, y2]
  · have cf : ∀ xs : List PyData, cutD xs (some 1) none = xs.drop 1 := fun xs => cut_from (by omega)
    rcases n with _ | ⟨c, _ | ⟨d, n⟩⟩
    · refine ⟨ws, p, o, [], by omega, by omega, by simp, ?_⟩
      simp -implicitDefEqProofs [R__law_drawn, runD_eq, g__law_drawn, e, ← hk]
    · refine ⟨ws, p, o, [c], by omega, by omega, by simp, ?_⟩
      simp -implicitDefEqProofs [R__law_drawn, runD_eq, g__law_drawn, e, ← hk]
    · refine ⟨ws, p, o, -c :: d :: n, by omega, by omega, by simp at g4 ⊢; omega, ?_⟩
      have w1 : wd (c :: d :: n) = .tuple (.int c :: .int d :: n.map PyData.int) := rfl
      have w2 : wd (-c :: d :: n) = .tuple (.int (-c) :: .int d :: n.map PyData.int) := rfl
      simp at g4
      simp -implicitDefEqProofs [R__law_drawn, runD_eq, g__law_drawn, e, ← hk, cf, w1, w2]
      rw [if_pos (by omega), if_pos (by omega)]
  · refine ⟨ws, p, o, o, by omega, by omega, by omega, ?_⟩
    simp -implicitDefEqProofs [R__law_drawn, runD_eq, g__law_drawn, e, ← hk]
  · refine ⟨ws, p, o, n, by omega, by omega, by omega, ?_⟩
    simp -implicitDefEqProofs [R__law_drawn, runD_eq, g__law_drawn, e, ← hk]
  · cases hA : [a, b, a].all (isL s)
    · rw [hA] at q1
      refine ⟨ws, p, [a, b, a], [b, a, b], by omega, by simp, by simp, ?_⟩
      simp -implicitDefEqProofs [R__law_drawn, runD_eq, g__law_drawn, e, ← hk, t1, q1]
    · rw [hA] at q1
      refine ⟨ws.take p.toNat ++ ([a, b, a] ++ ws.drop p.toNat), p, [a, b, a], [b, a, b], by simp; omega, by simp, by simp, ?_⟩
      have w1 : wd (ws.take p.toNat ++ ([a, b, a] ++ ws.drop p.toNat)) = .tuple ((ws.take p.toNat).map PyData.int ++ ([.int a, .int b, .int a] ++ (ws.drop p.toNat).map PyData.int)) := by simp [wd]
      have w2 : wd [a, b, a] = .tuple [.int a, .int b, .int a] := rfl
      simp -implicitDefEqProofs [R__law_drawn, runD_eq, g__law_drawn, e, ← hk, t1, q1, r1, r2, w1, -List.map_take, -List.map_drop]
      omega
end K02
namespace K02
open PySem PySem.Spec PyProof.Rows L2 DL
theorem mixed_at {c t : Int} : R__law_mixed [.int c, .int t] = some (.int (mixed c t)) := r_mixed c t
theorem word_at {v s m : Int} (h1 : 2 ≤ s) (h2 : s ≤ 1000) (h3 : 0 ≤ m) (h4 : m ≤ 1000) : R__law_word [.int v, .int s, .int m] = some (wd (lword v s m)) := r_word v s m h1 h2 h3 h4
theorem says_at {b c : Bool} : R__law_says [.bool b, .bool c] = some (.bool (decide (b = c))) := by
  simp -implicitDefEqProofs [R__law_says, runD_eq, g__law_says]
theorem same_int1 {i j : Int} : R__law_same_1 [.int i, .int j] = some (.bool (decide (i = j))) := by
  simp -implicitDefEqProofs [R__law_same_1, runD_eq, g__law_same]
theorem same_int {i j : Int} : R__law_same [.int i, .int j] = some (.bool (decide (i = j))) := by
  simp -implicitDefEqProofs [R__law_same, R__law_same_2, runD_eq, g__law_same]
theorem same_word {ws us : List Int} (h : us.length ≤ 1000) : R__law_same [wd ws, wd us] = some (.bool (decide (ws = us))) := by
  simp -implicitDefEqProofs [R__law_same, R__law_same_2, runD_eq, g__law_same]
  by_cases hl : ws.length = us.length
  · have hl' : ((ws.length : Nat) : Int) = ((us.length : Nat) : Int) := by omega
    rw [if_pos hl', rg1_nat (by omega), Option.bind_some, if_pos (by rw [rgD_len]; omega)]
    have e0 : rgD 0 us.length = (List.range us.length).map fun i : Nat => PyData.int (i : Int) := by
      unfold rgD
      congr 1
      funext i
      rw [Int.zero_add]
    rw [e0, lcD_gen (e := fun i : Nat => PyData.int (i : Int)) (e' := fun i : Nat => PyData.int (i : Int)) (fun i => !decide (ws[i]? = us[i]?)) (fun i => i)]
    · generalize hL : (List.range us.length).filter (fun i => !decide (ws[i]? = us[i]?)) = L
      have hne : L = [] ↔ ws = us := by
        rw [← hL, List.filter_eq_nil_iff]
        constructor
        · intro q
          apply List.ext_getElem? 
          intro i
          by_cases hi : i < us.length
          · have := q i (List.mem_range.mpr hi)
            simpa using this
          · rw [List.getElem?_eq_none (by omega), List.getElem?_eq_none (by omega)]
        · intro q i _
          rw [q]
          simp
      have e1 : (List.map (fun i : Nat => PyData.int (i : Int)) (List.map (fun i => i) L)) = (L.map fun i : Nat => ((i : Nat) : Int)).map PyData.int := by
        rw [List.map_id', List.map_map]
        rfl
      rw [e1]
      simp -implicitDefEqProofs [-List.map_map]
      by_cases hq : ws = us
      · have := hne.mpr hq
        simp [this, hq]
      · have : ¬ L = [] := fun z => hq (hne.mp z)
        simp [this, hq]
    · intro i hi
      have hi' : i < us.length := List.mem_range.mp hi
      have hj : i < ws.length := by omega
      have g1 : atI (ws.map PyData.int) (i : Int) = some (.int ws[i]) := atI_nat (by rw [List.getElem?_map, List.getElem?_eq_getElem hj]; rfl)
      have g2 : atI (us.map PyData.int) (i : Int) = some (.int us[i]) := atI_nat (by rw [List.getElem?_map, List.getElem?_eq_getElem hi']; rfl)
      simp -implicitDefEqProofs [g1, g2, same_int1, hi', hj]
    · intro i hi _
      simp -implicitDefEqProofs
  · have hl' : ¬ ((ws.length : Nat) : Int) = ((us.length : Nat) : Int) := by omega
    have hq : ¬ ws = us := fun z => hl (by rw [z])
    rw [if_neg hl']
    simp [hq]
theorem uni_law : Uni 6 (fun ad => (gSeq (gIf (tOrF (fB (f2 gIsNot (fVar 5) (fC .none))) (tOrF (tNotF (fTru (fIsE ad 6 true))) (tNotF (fTru (fIsE ad 6 true))))) (gRet (fC (.bool false))) DL.gNil)
    (gSeq (gIf (fTru (fIsE ad 6 false)) (gRet (fC (.bool false))) DL.gNil)
    gCt))) := by
  intro a ρ o h
  have sn : ∀ (a : Addr) (b : Bool), isS a b none = none := fun _ _ => rfl
  by_cases hl : 6 < ρ.length
  · have e : ∀ x : Slot, (ρ.set 6 x)[6]? = some x := fun x => List.getElem?_set_self hl
    have e5 : ∀ x : Slot, (ρ.set 6 x)[5]? = ρ[5]? := fun x => List.getElem?_set_ne (by decide)
    simp -implicitDefEqProofs [e, e5] at h ⊢
    cases hr : rdS ρ[5]? with
    | none => rw [hr] at h; simp at h
    | some x =>
      rw [hr] at h
      cases hn : isNone x.rd
      · simp -implicitDefEqProofs [hn] at h ⊢
        exact h
      · simp -implicitDefEqProofs [hn, e] at h ⊢
        exact h
  · have e : ∀ x : Slot, (ρ.set 6 x)[6]? = none := fun x => List.getElem?_eq_none (by rw [List.length_set]; omega)
    have e5 : ∀ x : Slot, (ρ.set 6 x)[5]? = ρ[5]? := fun x => List.getElem?_set_ne (by decide)
    simp -implicitDefEqProofs [e, e5, sn] at h ⊢
    cases hr : rdS ρ[5]? with
    | none => rw [hr] at h; simp at h
    | some x =>
      rw [hr] at h
      cases hn : isNone x.rd
      · simp -implicitDefEqProofs [hn] at h ⊢
        exact h
      · simp -implicitDefEqProofs [hn, e, sn] at h ⊢
theorem law_at (ns : List Int) (hn : ns.length ≤ 63) : R_law [.list (ns.map .int)] = some (.bool true) := by
  simp -implicitDefEqProofs [R_law, runD_eq, g_law, Option.bind_assoc]
  refine forD_all (fun i ρ => ∃ a b c d e f g h k, ρ = [Slot.d (PyData.list (List.map PyData.int ns)), a, b, c, d, e, f, g, h, k]) ⟨_, _, _, _, _, _, _, _, _, rfl⟩ ?_ ?_
  · rintro i x ρ hi ⟨a, b, c, d, e, f, g, h, k, rfl⟩
    obtain ⟨y, hy, rfl⟩ := enD_at hi
    rw [cut_map] at hy
    obtain ⟨z, hz, rfl⟩ := map_get hy
    obtain ⟨v, hv⟩ : ∃ v, v = mixed z i := ⟨_, rfl⟩
    have hv1 := Int.emod_nonneg v (show (7 : Int) ≠ 0 by omega)
    have hv2 := Int.emod_lt_of_pos v (show (0 : Int) < 7 by omega)
    obtain ⟨s, hs⟩ : ∃ s, s = 2 + v % 7 := ⟨_, rfl⟩
    have hs1 : 2 ≤ s := by omega
    have hs2 : s ≤ 8 := by omega
    have k1 := word_at (v := v / 7) (s := s) (m := 10) (by omega) (by omega) (by omega) (by omega)
    have w1 : (∀ w ∈ lword (v / 7) s 10, w ≠ 0 ∧ -s < w ∧ w < s) := fun w hw => lword_mem hs1 hw
    have l1 := lword_len (v := v / 7) (s := s) (m := 10) (by omega)
    generalize lword (v / 7) s 10 = ws at k1 w1 l1
    obtain ⟨us, p, o, n, u1, u2, u3, u4⟩ := drawn_at (s := s) (v := v / 1000000000000) (ws := ws) (by omega) (by omega) (by omega) (fun w hw => by have := w1 w hw; omega)
    have q1 := is_move_at (s := s) (p := p) (o := o) (n := n) (by omega) (by omega)
    have q2 := law_is_move_at (s := s) (p := p) (o := o) (n := n) (by omega) (by omega) (by omega)
    have q3 := made_at (s := s) (p := p) (ws := us) (o := o) (n := n) (by omega) (by omega) (by omega)
    have q4 := law_made_at (s := s) (p := p) (ws := us) (o := o) (n := n) (by omega) (by omega) (by omega) (by omega)
    unfold lawmk at q4
    cases hb : mvB s o n && stB us p o
    · rw [hb] at q3 q4
      simp -implicitDefEqProofs [mixed_at, ← hv, ← hs, k1, u4, q1, q2, q3, q4, says_at]
    · rw [hb] at q3 q4
      have q5 := same_word (ws := mk us p o n) (us := mk us p o n) (by unfold mk; simp only [List.length_append, List.length_take, List.length_drop]; omega)
      simp -implicitDefEqProofs [mixed_at, ← hv, ← hs, k1, u4, q1, q2, q3, q4, q5, says_at]
  · rintro ρ ⟨a, b, c, d, e, f, g, h, k, rfl⟩
    simp
end K02
namespace K02
open PySem PySem.Spec PyProof.Rows L2 DL
theorem all_mk {l : PySem.W.OpenLaw} {w : World} {K : PySem.W.Frag} {h : Heap} {mg : Str → Option Value} {fa f_is_word f_is_move f__is_pair f__is_exchange f__is_turn f__stands_there f_made f__law_mixed f__law_word f__law_is_letters f__law_is_move f__law_made f__law_moves_there f__law_some_move f__law_same f__law_says f__law_letters f__law_by_turns f__law_drawn f_law : Addr} (X : K.In h) (G : h.Ns mainGlobals mg) (hfa : mg "law" = some (.ref fa))
    {od_is_word an_is_word od_is_move an_is_move od__is_pair an__is_pair od__is_exchange an__is_exchange od__is_turn an__is_turn od__stands_there an__stands_there od_made an_made od__law_mixed an__law_mixed od__law_word an__law_word od__law_is_letters an__law_is_letters od__law_is_move an__law_is_move od__law_made an__law_made od__law_moves_there an__law_moves_there od__law_some_move an__law_some_move od__law_same an__law_same od__law_says an__law_says od__law_letters an__law_letters od__law_by_turns an__law_by_turns od__law_drawn an__law_drawn od_law an_law : Option Addr} {sl_is_word sl_is_move sl__is_pair sl__is_exchange sl__is_turn sl__stands_there sl_made sl__law_mixed sl__law_word sl__law_is_letters sl__law_is_move sl__law_made sl__law_moves_there sl__law_some_move sl__law_same sl__law_says sl__law_letters sl__law_by_turns sl__law_drawn sl_law : Array (Option Value)} {oc_is_word kV_is_word dc_is_word pm_is_word cd_is_word ct_is_word oc_is_move kV_is_move dc_is_move pm_is_move cd_is_move ct_is_move oc__is_pair kV__is_pair dc__is_pair pm__is_pair cd__is_pair ct__is_pair oc__is_exchange kV__is_exchange dc__is_exchange pm__is_exchange cd__is_exchange ct__is_exchange oc__is_turn kV__is_turn dc__is_turn pm__is_turn cd__is_turn ct__is_turn oc__stands_there kV__stands_there dc__stands_there pm__stands_there cd__stands_there ct__stands_there oc_made kV_made dc_made pm_made cd_made ct_made oc__law_mixed kV__law_mixed dc__law_mixed pm__law_mixed cd__law_mixed ct__law_mixed oc__law_word kV__law_word dc__law_word pm__law_word cd__law_word ct__law_word oc__law_is_letters kV__law_is_letters dc__law_is_letters pm__law_is_letters cd__law_is_letters ct__law_is_letters oc__law_is_move kV__law_is_move dc__law_is_move pm__law_is_move cd__law_is_move ct__law_is_move oc__law_made kV__law_made dc__law_made pm__law_made cd__law_made ct__law_made oc__law_moves_there kV__law_moves_there dc__law_moves_there pm__law_moves_there cd__law_moves_there ct__law_moves_there oc__law_some_move kV__law_some_move dc__law_some_move pm__law_some_move cd__law_some_move ct__law_some_move oc__law_same kV__law_same dc__law_same pm__law_same cd__law_same ct__law_same oc__law_says kV__law_says dc__law_says pm__law_says cd__law_says ct__law_says oc__law_letters kV__law_letters dc__law_letters pm__law_letters cd__law_letters ct__law_letters oc__law_by_turns kV__law_by_turns dc__law_by_turns pm__law_by_turns cd__law_by_turns ct__law_by_turns oc__law_drawn kV__law_drawn dc__law_drawn pm__law_drawn cd__law_drawn ct__law_drawn oc_law kV_law dc_law pm_law cd_law ct_law : Value}
    (a_is_word : PySem.W.nsIn K mainGlobals "is_word" = some (some (.ref f_is_word))) (l_is_word : K.lookup f_is_word = some ⟨oc_is_word, od_is_word, .func (PySem.W.fnOf "is_word" "is_word" (defArgs s_is_word) (defBody s_is_word) (defScope s_is_word) .none kV_is_word dc_is_word pm_is_word an_is_word cd_is_word ct_is_word), sl_is_word⟩) (c_is_word : PySem.W.codeIn K cd_is_word "is_word" = true) (k_is_word : PySem.W.keepIn K (.ref f_is_word) = true)
    (a_is_move : PySem.W.nsIn K mainGlobals "is_move" = some (some (.ref f_is_move))) (l_is_move : K.lookup f_is_move = some ⟨oc_is_move, od_is_move, .func (PySem.W.fnOf "is_move" "is_move" (defArgs s_is_move) (defBody s_is_move) (defScope s_is_move) .none kV_is_move dc_is_move pm_is_move an_is_move cd_is_move ct_is_move), sl_is_move⟩) (c_is_move : PySem.W.codeIn K cd_is_move "is_move" = true) (k_is_move : PySem.W.keepIn K (.ref f_is_move) = true)
    (a__is_pair : PySem.W.nsIn K mainGlobals "_is_pair" = some (some (.ref f__is_pair))) (l__is_pair : K.lookup f__is_pair = some ⟨oc__is_pair, od__is_pair, .func (PySem.W.fnOf "_is_pair" "_is_pair" (defArgs s__is_pair) (defBody s__is_pair) (defScope s__is_pair) .none kV__is_pair dc__is_pair pm__is_pair an__is_pair cd__is_pair ct__is_pair), sl__is_pair⟩) (c__is_pair : PySem.W.codeIn K cd__is_pair "_is_pair" = true) (k__is_pair : PySem.W.keepIn K (.ref f__is_pair) = true)
    (a__is_exchange : PySem.W.nsIn K mainGlobals "_is_exchange" = some (some (.ref f__is_exchange))) (l__is_exchange : K.lookup f__is_exchange = some ⟨oc__is_exchange, od__is_exchange, .func (PySem.W.fnOf "_is_exchange" "_is_exchange" (defArgs s__is_exchange) (defBody s__is_exchange) (defScope s__is_exchange) .none kV__is_exchange dc__is_exchange pm__is_exchange an__is_exchange cd__is_exchange ct__is_exchange), sl__is_exchange⟩) (c__is_exchange : PySem.W.codeIn K cd__is_exchange "_is_exchange" = true) (k__is_exchange : PySem.W.keepIn K (.ref f__is_exchange) = true)
    (a__is_turn : PySem.W.nsIn K mainGlobals "_is_turn" = some (some (.ref f__is_turn))) (l__is_turn : K.lookup f__is_turn = some ⟨oc__is_turn, od__is_turn, .func (PySem.W.fnOf "_is_turn" "_is_turn" (defArgs s__is_turn) (defBody s__is_turn) (defScope s__is_turn) .none kV__is_turn dc__is_turn pm__is_turn an__is_turn cd__is_turn ct__is_turn), sl__is_turn⟩) (c__is_turn : PySem.W.codeIn K cd__is_turn "_is_turn" = true) (k__is_turn : PySem.W.keepIn K (.ref f__is_turn) = true)
    (a__stands_there : PySem.W.nsIn K mainGlobals "_stands_there" = some (some (.ref f__stands_there))) (l__stands_there : K.lookup f__stands_there = some ⟨oc__stands_there, od__stands_there, .func (PySem.W.fnOf "_stands_there" "_stands_there" (defArgs s__stands_there) (defBody s__stands_there) (defScope s__stands_there) .none kV__stands_there dc__stands_there pm__stands_there an__stands_there cd__stands_there ct__stands_there), sl__stands_there⟩) (c__stands_there : PySem.W.codeIn K cd__stands_there "_stands_there" = true) (k__stands_there : PySem.W.keepIn K (.ref f__stands_there) = true)
    (a_made : PySem.W.nsIn K mainGlobals "made" = some (some (.ref f_made))) (l_made : K.lookup f_made = some ⟨oc_made, od_made, .func (PySem.W.fnOf "made" "made" (defArgs s_made) (defBody s_made) (defScope s_made) .none kV_made dc_made pm_made an_made cd_made ct_made), sl_made⟩) (c_made : PySem.W.codeIn K cd_made "made" = true) (k_made : PySem.W.keepIn K (.ref f_made) = true)
    (a__law_mixed : PySem.W.nsIn K mainGlobals "_law_mixed" = some (some (.ref f__law_mixed))) (l__law_mixed : K.lookup f__law_mixed = some ⟨oc__law_mixed, od__law_mixed, .func (PySem.W.fnOf "_law_mixed" "_law_mixed" (defArgs s__law_mixed) (defBody s__law_mixed) (defScope s__law_mixed) .none kV__law_mixed dc__law_mixed pm__law_mixed an__law_mixed cd__law_mixed ct__law_mixed), sl__law_mixed⟩) (c__law_mixed : PySem.W.codeIn K cd__law_mixed "_law_mixed" = true) (k__law_mixed : PySem.W.keepIn K (.ref f__law_mixed) = true)
    (a__law_word : PySem.W.nsIn K mainGlobals "_law_word" = some (some (.ref f__law_word))) (l__law_word : K.lookup f__law_word = some ⟨oc__law_word, od__law_word, .func (PySem.W.fnOf "_law_word" "_law_word" (defArgs s__law_word) (defBody s__law_word) (defScope s__law_word) .none kV__law_word dc__law_word pm__law_word an__law_word cd__law_word ct__law_word), sl__law_word⟩) (c__law_word : PySem.W.codeIn K cd__law_word "_law_word" = true) (k__law_word : PySem.W.keepIn K (.ref f__law_word) = true)
    (a__law_is_letters : PySem.W.nsIn K mainGlobals "_law_is_letters" = some (some (.ref f__law_is_letters))) (l__law_is_letters : K.lookup f__law_is_letters = some ⟨oc__law_is_letters, od__law_is_letters, .func (PySem.W.fnOf "_law_is_letters" "_law_is_letters" (defArgs s__law_is_letters) (defBody s__law_is_letters) (defScope s__law_is_letters) .none kV__law_is_letters dc__law_is_letters pm__law_is_letters an__law_is_letters cd__law_is_letters ct__law_is_letters), sl__law_is_letters⟩) (c__law_is_letters : PySem.W.codeIn K cd__law_is_letters "_law_is_letters" = true) (k__law_is_letters : PySem.W.keepIn K (.ref f__law_is_letters) = true)
    (a__law_is_move : PySem.W.nsIn K mainGlobals "_law_is_move" = some (some (.ref f__law_is_move))) (l__law_is_move : K.lookup f__law_is_move = some ⟨oc__law_is_move, od__law_is_move, .func (PySem.W.fnOf "_law_is_move" "_law_is_move" (defArgs s__law_is_move) (defBody s__law_is_move) (defScope s__law_is_move) .none kV__law_is_move dc__law_is_move pm__law_is_move an__law_is_move cd__law_is_move ct__law_is_move), sl__law_is_move⟩) (c__law_is_move : PySem.W.codeIn K cd__law_is_move "_law_is_move" = true) (k__law_is_move : PySem.W.keepIn K (.ref f__law_is_move) = true)
    (a__law_made : PySem.W.nsIn K mainGlobals "_law_made" = some (some (.ref f__law_made))) (l__law_made : K.lookup f__law_made = some ⟨oc__law_made, od__law_made, .func (PySem.W.fnOf "_law_made" "_law_made" (defArgs s__law_made) (defBody s__law_made) (defScope s__law_made) .none kV__law_made dc__law_made pm__law_made an__law_made cd__law_made ct__law_made), sl__law_made⟩) (c__law_made : PySem.W.codeIn K cd__law_made "_law_made" = true) (k__law_made : PySem.W.keepIn K (.ref f__law_made) = true)
    (a__law_moves_there : PySem.W.nsIn K mainGlobals "_law_moves_there" = some (some (.ref f__law_moves_there))) (l__law_moves_there : K.lookup f__law_moves_there = some ⟨oc__law_moves_there, od__law_moves_there, .func (PySem.W.fnOf "_law_moves_there" "_law_moves_there" (defArgs s__law_moves_there) (defBody s__law_moves_there) (defScope s__law_moves_there) .none kV__law_moves_there dc__law_moves_there pm__law_moves_there an__law_moves_there cd__law_moves_there ct__law_moves_there), sl__law_moves_there⟩) (c__law_moves_there : PySem.W.codeIn K cd__law_moves_there "_law_moves_there" = true) (k__law_moves_there : PySem.W.keepIn K (.ref f__law_moves_there) = true)
    (a__law_some_move : PySem.W.nsIn K mainGlobals "_law_some_move" = some (some (.ref f__law_some_move))) (l__law_some_move : K.lookup f__law_some_move = some ⟨oc__law_some_move, od__law_some_move, .func (PySem.W.fnOf "_law_some_move" "_law_some_move" (defArgs s__law_some_move) (defBody s__law_some_move) (defScope s__law_some_move) .none kV__law_some_move dc__law_some_move pm__law_some_move an__law_some_move cd__law_some_move ct__law_some_move), sl__law_some_move⟩) (c__law_some_move : PySem.W.codeIn K cd__law_some_move "_law_some_move" = true) (k__law_some_move : PySem.W.keepIn K (.ref f__law_some_move) = true)
    (a__law_same : PySem.W.nsIn K mainGlobals "_law_same" = some (some (.ref f__law_same))) (l__law_same : K.lookup f__law_same = some ⟨oc__law_same, od__law_same, .func (PySem.W.fnOf "_law_same" "_law_same" (defArgs s__law_same) (defBody s__law_same) (defScope s__law_same) .none kV__law_same dc__law_same pm__law_same an__law_same cd__law_same ct__law_same), sl__law_same⟩) (c__law_same : PySem.W.codeIn K cd__law_same "_law_same" = true) (k__law_same : PySem.W.keepIn K (.ref f__law_same) = true)
    (a__law_says : PySem.W.nsIn K mainGlobals "_law_says" = some (some (.ref f__law_says))) (l__law_says : K.lookup f__law_says = some ⟨oc__law_says, od__law_says, .func (PySem.W.fnOf "_law_says" "_law_says" (defArgs s__law_says) (defBody s__law_says) (defScope s__law_says) .none kV__law_says dc__law_says pm__law_says an__law_says cd__law_says ct__law_says), sl__law_says⟩) (c__law_says : PySem.W.codeIn K cd__law_says "_law_says" = true) (k__law_says : PySem.W.keepIn K (.ref f__law_says) = true)
    (a__law_letters : PySem.W.nsIn K mainGlobals "_law_letters" = some (some (.ref f__law_letters))) (l__law_letters : K.lookup f__law_letters = some ⟨oc__law_letters, od__law_letters, .func (PySem.W.fnOf "_law_letters" "_law_letters" (defArgs s__law_letters) (defBody s__law_letters) (defScope s__law_letters) .none kV__law_letters dc__law_letters pm__law_letters an__law_letters cd__law_letters ct__law_letters), sl__law_letters⟩) (c__law_letters : PySem.W.codeIn K cd__law_letters "_law_letters" = true) (k__law_letters : PySem.W.keepIn K (.ref f__law_letters) = true)
    (a__law_by_turns : PySem.W.nsIn K mainGlobals "_law_by_turns" = some (some (.ref f__law_by_turns))) (l__law_by_turns : K.lookup f__law_by_turns = some ⟨oc__law_by_turns, od__law_by_turns, .func (PySem.W.fnOf "_law_by_turns" "_law_by_turns" (defArgs s__law_by_turns) (defBody s__law_by_turns) (defScope s__law_by_turns) .none kV__law_by_turns dc__law_by_turns pm__law_by_turns an__law_by_turns cd__law_by_turns ct__law_by_turns), sl__law_by_turns⟩) (c__law_by_turns : PySem.W.codeIn K cd__law_by_turns "_law_by_turns" = true) (k__law_by_turns : PySem.W.keepIn K (.ref f__law_by_turns) = true)
    (a__law_drawn : PySem.W.nsIn K mainGlobals "_law_drawn" = some (some (.ref f__law_drawn))) (l__law_drawn : K.lookup f__law_drawn = some ⟨oc__law_drawn, od__law_drawn, .func (PySem.W.fnOf "_law_drawn" "_law_drawn" (defArgs s__law_drawn) (defBody s__law_drawn) (defScope s__law_drawn) .none kV__law_drawn dc__law_drawn pm__law_drawn an__law_drawn cd__law_drawn ct__law_drawn), sl__law_drawn⟩) (c__law_drawn : PySem.W.codeIn K cd__law_drawn "_law_drawn" = true) (k__law_drawn : PySem.W.keepIn K (.ref f__law_drawn) = true)
    (a_law : PySem.W.nsIn K mainGlobals "law" = some (some (.ref f_law))) (l_law : K.lookup f_law = some ⟨oc_law, od_law, .func (PySem.W.fnOf "law" "law" (defArgs s_law) (defBody s_law) (defScope s_law) .none kV_law dc_law pm_law an_law cd_law ct_law), sl_law⟩) (c_law : PySem.W.codeIn K cd_law "law" = true) (k_law : PySem.W.keepIn K (.ref f_law) = true)
    (z_all : PySem.W.nsIn K mainGlobals "all" = some none) (z_abs : PySem.W.nsIn K mainGlobals "abs" = some none) (z_len : PySem.W.nsIn K mainGlobals "len" = some none) (z_tuple : PySem.W.nsIn K mainGlobals "tuple" = some none) (z_int : PySem.W.nsIn K mainGlobals "int" = some none) (z_range : PySem.W.nsIn K mainGlobals "range" = some none) (z_isinstance : PySem.W.nsIn K mainGlobals "isinstance" = some none) (z_bool : PySem.W.nsIn K mainGlobals "bool" = some none) (z_list : PySem.W.nsIn K mainGlobals "list" = some none) (z_enumerate : PySem.W.nsIn K mainGlobals "enumerate" = some none) (z_ValueError : PySem.W.nsIn K mainGlobals "ValueError" = some none) {C_BadMove : Addr} (a_BadMove : PySem.W.nsIn K mainGlobals "BadMove" = some (some (.ref C_BadMove))) (q_BadMove : PySem.W.excIn K C_BadMove [.type "ValueError", .type "Exception", .type "BaseException", .type "object"] "ValueError.__new__" = true) (kk_BadMove : PySem.W.keepIn K (.ref C_BadMove) = true) (s_BadMove : PySem.W.subIn K (.ref C_BadMove) (.type "BaseException") = some true) (t_BadMove : PySem.W.typeIn K (.ref C_BadMove) = some (.type "type")) (hd_BadMove : PySem.W.hasDictIn K C_BadMove = true) (ss_BadMove : PySem.W.subIn K (.ref C_BadMove) (.ref C_BadMove) = some true) {C_BadText : Addr} (a_BadText : PySem.W.nsIn K mainGlobals "BadText" = some (some (.ref C_BadText))) (q_BadText : PySem.W.excIn K C_BadText [.type "ValueError", .type "Exception", .type "BaseException", .type "object"] "ValueError.__new__" = true) (kk_BadText : PySem.W.keepIn K (.ref C_BadText) = true) (s_BadText : PySem.W.subIn K (.ref C_BadText) (.type "BaseException") = some true) (t_BadText : PySem.W.typeIn K (.ref C_BadText) = some (.type "type")) (hd_BadText : PySem.W.hasDictIn K C_BadText = true) (ss_BadText : PySem.W.subIn K (.ref C_BadText) (.ref C_BadText) = some true) {C_NoPlait : Addr} (a_NoPlait : PySem.W.nsIn K mainGlobals "NoPlait" = some (some (.ref C_NoPlait))) (q_NoPlait : PySem.W.excIn K C_NoPlait [.type "ValueError", .type "Exception", .type "BaseException", .type "object"] "ValueError.__new__" = true) (kk_NoPlait : PySem.W.keepIn K (.ref C_NoPlait) = true) (s_NoPlait : PySem.W.subIn K (.ref C_NoPlait) (.type "BaseException") = some true) (t_NoPlait : PySem.W.typeIn K (.ref C_NoPlait) = some (.type "type")) (hd_NoPlait : PySem.W.hasDictIn K C_NoPlait = true) (ss_NoPlait : PySem.W.subIn K (.ref C_NoPlait) (.ref C_NoPlait) = some true) {C_PlaitError : Addr} (a_PlaitError : PySem.W.nsIn K mainGlobals "PlaitError" = some (some (.ref C_PlaitError))) (q_PlaitError : PySem.W.excIn K C_PlaitError [.type "ValueError", .type "Exception", .type "BaseException", .type "object"] "ValueError.__new__" = true) (kk_PlaitError : PySem.W.keepIn K (.ref C_PlaitError) = true) (s_PlaitError : PySem.W.subIn K (.ref C_PlaitError) (.type "BaseException") = some true) (t_PlaitError : PySem.W.typeIn K (.ref C_PlaitError) = some (.type "type")) (hd_PlaitError : PySem.W.hasDictIn K C_PlaitError = true) (ss_PlaitError : PySem.W.subIn K (.ref C_PlaitError) (.ref C_PlaitError) = some true) (x1_BadMove : PySem.W.findIn K (.ref C_BadMove) "__getattribute__" = some (some (.builtin "BaseException.__getattribute__"))) (x2_BadMove : PySem.W.findIn K (.ref C_BadMove) "__getattr__" = some none) (x4_BadMove : PySem.W.findIn K (.ref C_BadMove) "__class__" = some (some (.builtin "object.__class__"))) (x5_BadMove : PySem.W.specialIn K (.builtin "object.__class__") "__get__" = some (some (.builtin "getset_descriptor.__get__"))) (x6_BadMove : PySem.W.takesIn K (.builtin "object.__class__") = some true) (x7_BadMove : PySem.W.mroIn K C_BadMove (.type "object") = some true) (u_BadMove_BadText : PySem.W.subIn K (.ref C_BadMove) (.ref C_BadText) = some false) (n_BadMove_BadText : ((Value.ref C_BadMove) == .ref C_BadText) = false) (u_BadMove_NoPlait : PySem.W.subIn K (.ref C_BadMove) (.ref C_NoPlait) = some false) (n_BadMove_NoPlait : ((Value.ref C_BadMove) == .ref C_NoPlait) = false) (u_BadMove_PlaitError : PySem.W.subIn K (.ref C_BadMove) (.ref C_PlaitError) = some true) (u_BadMove_ValueError : PySem.W.subIn K (.ref C_BadMove) (.type "ValueError") = some true) :
    ∃ fd : FuncData, (∀ (s : Shared) (v : Value), BindsTo s fd ⟨[v], []⟩ [("script", v)]) ∧ ∀ base : Heap, K.In base → base.Ns mainGlobals mg → FnOk l.prog w K mg base CX0 4 fa fd ["script"] (spLaw K) := by
  have e := hfa.symm.trans (PySem.W.mg_of X G a_law)
  cases e
  have F_is_word := fun_mk (st := s_is_word) l_is_word c_is_word k_is_word
  have m_is_word := PySem.W.mg_of X G a_is_word
  have b_is_word := F_is_word.binds (ps := ["strands", "word"]) fun _ _ _ _ _ _ us hl => match us, hl with | [_, _], _ => rfl
  have F_is_move := fun_mk (st := s_is_move) l_is_move c_is_move k_is_move
  have m_is_move := PySem.W.mg_of X G a_is_move
  have b_is_move := F_is_move.binds (ps := ["strands", "move"]) fun _ _ _ _ _ _ us hl => match us, hl with | [_, _], _ => rfl
  have F__is_pair := fun_mk (st := s__is_pair) l__is_pair c__is_pair k__is_pair
  have m__is_pair := PySem.W.mg_of X G a__is_pair
  have b__is_pair := F__is_pair.binds (ps := ["old", "new"]) fun _ _ _ _ _ _ us hl => match us, hl with | [_, _], _ => rfl
  have F__is_exchange := fun_mk (st := s__is_exchange) l__is_exchange c__is_exchange k__is_exchange
  have m__is_exchange := PySem.W.mg_of X G a__is_exchange
  have b__is_exchange := F__is_exchange.binds (ps := ["old", "new"]) fun _ _ _ _ _ _ us hl => match us, hl with | [_, _], _ => rfl
  have F__is_turn := fun_mk (st := s__is_turn) l__is_turn c__is_turn k__is_turn
  have m__is_turn := PySem.W.mg_of X G a__is_turn
  have b__is_turn := F__is_turn.binds (ps := ["old", "new"]) fun _ _ _ _ _ _ us hl => match us, hl with | [_, _], _ => rfl
  have F__stands_there := fun_mk (st := s__stands_there) l__stands_there c__stands_there k__stands_there
  have m__stands_there := PySem.W.mg_of X G a__stands_there
  have b__stands_there := F__stands_there.binds (ps := ["letters", "place", "old"]) fun _ _ _ _ _ _ us hl => match us, hl with | [_, _, _], _ => rfl
  have F_made := fun_mk (st := s_made) l_made c_made k_made
  have m_made := PySem.W.mg_of X G a_made
  have b_made := F_made.binds (ps := ["strands", "word", "move"]) fun _ _ _ _ _ _ us hl => match us, hl with | [_, _, _], _ => rfl
  have F__law_mixed := fun_mk (st := s__law_mixed) l__law_mixed c__law_mixed k__law_mixed
  have m__law_mixed := PySem.W.mg_of X G a__law_mixed
  have b__law_mixed := F__law_mixed.binds (ps := ["cell", "turn"]) fun _ _ _ _ _ _ us hl => match us, hl with | [_, _], _ => rfl
  have F__law_word := fun_mk (st := s__law_word) l__law_word c__law_word k__law_word
  have m__law_word := PySem.W.mg_of X G a__law_word
  have b__law_word := F__law_word.binds (ps := ["value", "strands", "most"]) fun _ _ _ _ _ _ us hl => match us, hl with | [_, _, _], _ => rfl
  have F__law_is_letters := fun_mk (st := s__law_is_letters) l__law_is_letters c__law_is_letters k__law_is_letters
  have m__law_is_letters := PySem.W.mg_of X G a__law_is_letters
  have b__law_is_letters := F__law_is_letters.binds (ps := ["strands", "word"]) fun _ _ _ _ _ _ us hl => match us, hl with | [_, _], _ => rfl
  have F__law_is_move := fun_mk (st := s__law_is_move) l__law_is_move c__law_is_move k__law_is_move
  have m__law_is_move := PySem.W.mg_of X G a__law_is_move
  have b__law_is_move := F__law_is_move.binds (ps := ["strands", "move"]) fun _ _ _ _ _ _ us hl => match us, hl with | [_, _], _ => rfl
  have F__law_made := fun_mk (st := s__law_made) l__law_made c__law_made k__law_made
  have m__law_made := PySem.W.mg_of X G a__law_made
  have b__law_made := F__law_made.binds (ps := ["strands", "word", "move"]) fun _ _ _ _ _ _ us hl => match us, hl with | [_, _, _], _ => rfl
  have F__law_moves_there := fun_mk (st := s__law_moves_there) l__law_moves_there c__law_moves_there k__law_moves_there
  have m__law_moves_there := PySem.W.mg_of X G a__law_moves_there
  have b__law_moves_there := F__law_moves_there.binds (ps := ["strands", "word"]) fun _ _ _ _ _ _ us hl => match us, hl with | [_, _], _ => rfl
  have F__law_some_move := fun_mk (st := s__law_some_move) l__law_some_move c__law_some_move k__law_some_move
  have m__law_some_move := PySem.W.mg_of X G a__law_some_move
  have b__law_some_move := F__law_some_move.binds (ps := ["strands", "word", "value"]) fun _ _ _ _ _ _ us hl => match us, hl with | [_, _, _], _ => rfl
  have F__law_same := fun_mk (st := s__law_same) l__law_same c__law_same k__law_same
  have m__law_same := PySem.W.mg_of X G a__law_same
  have b__law_same := F__law_same.binds (ps := ["told", "due"]) fun _ _ _ _ _ _ us hl => match us, hl with | [_, _], _ => rfl
  have F__law_says := fun_mk (st := s__law_says) l__law_says c__law_says k__law_says
  have m__law_says := PySem.W.mg_of X G a__law_says
  have b__law_says := F__law_says.binds (ps := ["told", "due"]) fun _ _ _ _ _ _ us hl => match us, hl with | [_, _], _ => rfl
  have F__law_letters := fun_mk (st := s__law_letters) l__law_letters c__law_letters k__law_letters
  have m__law_letters := PySem.W.mg_of X G a__law_letters
  have b__law_letters := F__law_letters.binds (ps := ["value"]) fun _ _ _ _ _ _ us hl => match us, hl with | [_], _ => rfl
  have F__law_by_turns := fun_mk (st := s__law_by_turns) l__law_by_turns c__law_by_turns k__law_by_turns
  have m__law_by_turns := PySem.W.mg_of X G a__law_by_turns
  have b__law_by_turns := F__law_by_turns.binds (ps := ["strands", "value"]) fun _ _ _ _ _ _ us hl => match us, hl with | [_, _], _ => rfl
  have F__law_drawn := fun_mk (st := s__law_drawn) l__law_drawn c__law_drawn k__law_drawn
  have m__law_drawn := PySem.W.mg_of X G a__law_drawn
  have b__law_drawn := F__law_drawn.binds (ps := ["strands", "word", "value"]) fun _ _ _ _ _ _ us hl => match us, hl with | [_, _, _], _ => rfl
  have F_law := fun_mk (st := s_law) l_law c_law k_law
  have m_law := PySem.W.mg_of X G a_law
  have Z_BadMove : ErrC K mg "BadMove" C_BadMove := ⟨PySem.W.mg_of X G a_BadMove, q_BadMove, kk_BadMove, s_BadMove, t_BadMove, PySem.W.exm_ref s_BadMove hd_BadMove t_BadMove ss_BadMove⟩
  have Z_BadText : ErrC K mg "BadText" C_BadText := ⟨PySem.W.mg_of X G a_BadText, q_BadText, kk_BadText, s_BadText, t_BadText, PySem.W.exm_ref s_BadText hd_BadText t_BadText ss_BadText⟩
  have Z_NoPlait : ErrC K mg "NoPlait" C_NoPlait := ⟨PySem.W.mg_of X G a_NoPlait, q_NoPlait, kk_NoPlait, s_NoPlait, t_NoPlait, PySem.W.exm_ref s_NoPlait hd_NoPlait t_NoPlait ss_NoPlait⟩
  have Z_PlaitError : ErrC K mg "PlaitError" C_PlaitError := ⟨PySem.W.mg_of X G a_PlaitError, q_PlaitError, kk_PlaitError, s_PlaitError, t_PlaitError, PySem.W.exm_ref s_PlaitError hd_PlaitError t_PlaitError ss_PlaitError⟩
  have X_BadMove : ExcC K C_BadMove := ⟨x1_BadMove, x2_BadMove, s_BadMove, hd_BadMove, x4_BadMove, x5_BadMove, x6_BadMove, x7_BadMove⟩
  have j_BadMove_BadText := DL.kit_own hd_BadText t_BadText u_BadMove_BadText (.inr n_BadMove_BadText)
  have j_BadMove_NoPlait := DL.kit_own hd_NoPlait t_NoPlait u_BadMove_NoPlait (.inr n_BadMove_NoPlait)
  have j_BadMove_PlaitError := DL.kit_own hd_PlaitError t_PlaitError u_BadMove_PlaitError (.inl rfl)
  have j_BadMove_ValueError := DL.kit_typ (by decide +kernel) u_BadMove_ValueError
  have i_BadMove_BadText_NoPlait : PySem.W.kitAny K (.ref C_BadMove) [(.ref C_BadText), (.ref C_NoPlait)] = some false := DL.kit_two j_BadMove_BadText j_BadMove_NoPlait
  have i_BadMove_PlaitError := j_BadMove_PlaitError
  have i_BadMove_ValueError := j_BadMove_ValueError
  have m_all := PySem.W.mg_none_of X G z_all
  have m_abs := PySem.W.mg_none_of X G z_abs
  have m_len := PySem.W.mg_none_of X G z_len
  have m_tuple := PySem.W.mg_none_of X G z_tuple
  have m_int := PySem.W.mg_none_of X G z_int
  have m_range := PySem.W.mg_none_of X G z_range
  have m_isinstance := PySem.W.mg_none_of X G z_isinstance
  have m_bool := PySem.W.mg_none_of X G z_bool
  have m_list := PySem.W.mg_none_of X G z_list
  have m_enumerate := PySem.W.mg_none_of X G z_enumerate
  have m_ValueError := PySem.W.mg_none_of X G z_ValueError
  refine ⟨PySem.W.fnOf "law" "law" (defArgs s_law) (defBody s_law) (defScope s_law) .none kV_law dc_law pm_law an_law cd_law ct_law, fun s v => .of_eq rfl, fun base _ _ => ?_⟩
  have G_is_word : FnOk l.prog w K mg base CX0 1 f_is_word _ ["strands", "word"] (spD K 2 R_is_word) := ok_is_word (k := 0) F_is_word m_all m_abs
  have G__is_pair : FnOk l.prog w K mg base CX0 1 f__is_pair _ ["old", "new"] (spD K 2 R__is_pair) := ok__is_pair (k := 0) F__is_pair m_len
  have G__is_exchange : FnOk l.prog w K mg base CX0 1 f__is_exchange _ ["old", "new"] (spD K 2 R__is_exchange) := ok__is_exchange (k := 0) F__is_exchange m_len m_abs
  have G__is_turn : FnOk l.prog w K mg base CX0 1 f__is_turn _ ["old", "new"] (spD K 2 R__is_turn) := ok__is_turn (k := 0) F__is_turn m_abs m_len
  have G_is_move : FnOk l.prog w K mg base CX0 2 f_is_move _ ["strands", "move"] (spD K 2 R_is_move) := ok_is_move (k := 1) F_is_move G__is_pair (by decide) m__is_pair k__is_pair b__is_pair G__is_exchange (by decide) m__is_exchange k__is_exchange b__is_exchange G__is_turn (by decide) m__is_turn k__is_turn b__is_turn G_is_word (by decide) m_is_word k_is_word b_is_word
  have G__stands_there : FnOk l.prog w K mg base CX0 1 f__stands_there _ ["letters", "place", "old"] (spD K 3 R__stands_there) := ok__stands_there (k := 0) F__stands_there m_len m_tuple
  have G_made : FnOk l.prog w K mg base (L2.CX l.prog w) 3 f_made _ ["strands", "word", "move"] (spX K mg 3 R_made) := ok_made (k := 2) F_made G__stands_there (by decide) m__stands_there k__stands_there b__stands_there G_is_move (by decide) m_is_move k_is_move b_is_move Z_BadMove m_len
  have G__law_mixed : FnOk l.prog w K mg base CX0 1 f__law_mixed _ ["cell", "turn"] (spD K 2 R__law_mixed) := ok__law_mixed (k := 0) F__law_mixed m_int
  have G__law_word : FnOk l.prog w K mg base CX0 1 f__law_word _ ["value", "strands", "most"] (spD K 3 R__law_word) := ok__law_word (k := 0) F__law_word m_tuple m_range m_int
  have G__law_is_letters : FnOk l.prog w K mg base CX0 1 f__law_is_letters _ ["strands", "word"] (spD K 2 R__law_is_letters) := ok__law_is_letters (k := 0) F__law_is_letters m_abs
  have G__law_is_move : FnOk l.prog w K mg base CX0 2 f__law_is_move _ ["strands", "move"] (spD K 2 R__law_is_move) := ok__law_is_move (k := 1) F__law_is_move G__law_is_letters (by decide) m__law_is_letters k__law_is_letters b__law_is_letters m_abs m_len
  have G__law_made : FnOk l.prog w K mg base CX0 3 f__law_made _ ["strands", "word", "move"] (spD K 3 R__law_made) := ok__law_made (k := 2) F__law_made G__law_is_move (by decide) m__law_is_move k__law_is_move b__law_is_move m_len
  have G__law_moves_there : FnOk l.prog w K mg base CX0 1 f__law_moves_there _ ["strands", "word"] (spD K 2 R__law_moves_there) := ok__law_moves_there (k := 0) F__law_moves_there m_range m_len m_abs
  have G__law_some_move : FnOk l.prog w K mg base CX0 2 f__law_some_move _ ["strands", "word", "value"] (spD K 3 R__law_some_move) := ok__law_some_move (k := 1) F__law_some_move G__law_moves_there (by decide) m__law_moves_there k__law_moves_there b__law_moves_there m_len
  have G__law_same_0 : FnOk l.prog w K mg base CX0 0 f__law_same (PySem.W.fnOf "_law_same" "_law_same" (defArgs s__law_same) (defBody s__law_same) (defScope s__law_same) .none kV__law_same dc__law_same pm__law_same an__law_same cd__law_same ct__law_same) ["told", "due"] (spD K 2 R__law_same_0) := fn_none
  have G__law_same_1 : FnOk l.prog w K mg base CX0 1 f__law_same _ ["told", "due"] (spD K 2 R__law_same_1) := ok__law_same (k := 0) F__law_same G__law_same_0 (by decide) m__law_same k__law_same b__law_same m_isinstance m_int m_bool m_tuple m_list m_range m_len
  have G__law_same_2 : FnOk l.prog w K mg base CX0 2 f__law_same _ ["told", "due"] (spD K 2 R__law_same_2) := ok__law_same (k := 1) F__law_same G__law_same_1 (by decide) m__law_same k__law_same b__law_same m_isinstance m_int m_bool m_tuple m_list m_range m_len
  have G__law_same : FnOk l.prog w K mg base CX0 2 f__law_same _ ["told", "due"] (spD K 2 R__law_same) := G__law_same_2
  have G__law_says : FnOk l.prog w K mg base CX0 1 f__law_says _ ["told", "due"] (spD K 2 R__law_says) := ok__law_says (k := 0) F__law_says m_isinstance m_bool
  have G__law_letters : FnOk l.prog w K mg base CX0 1 f__law_letters _ ["value"] (spD K 1 R__law_letters) := ok__law_letters (k := 0) F__law_letters m_tuple m_range
  have G__law_by_turns : FnOk l.prog w K mg base CX0 1 f__law_by_turns _ ["strands", "value"] (spD K 2 R__law_by_turns) := ok__law_by_turns (k := 0) F__law_by_turns m_abs
  have G__law_drawn : FnOk l.prog w K mg base CX0 3 f__law_drawn _ ["strands", "word", "value"] (spD K 3 R__law_drawn) := ok__law_drawn (k := 2) F__law_drawn G__law_is_letters (by decide) m__law_is_letters k__law_is_letters b__law_is_letters G__law_by_turns (by decide) m__law_by_turns k__law_by_turns b__law_by_turns G__law_letters (by decide) m__law_letters k__law_letters b__law_letters G__law_some_move (by decide) m__law_some_move k__law_some_move b__law_some_move m_len
  exact law_of (ok_law (k := 3) F_law G__law_same (by decide) m__law_same k__law_same b__law_same G_made (by decide) m_made k_made b_made G__law_made (by decide) m__law_made k__law_made b__law_made G__law_says (by decide) m__law_says k__law_says b__law_says G_is_move (by decide) m_is_move k_is_move b_is_move G__law_is_move (by decide) m__law_is_move k__law_is_move b__law_is_move G__law_drawn (by decide) m__law_drawn k__law_drawn b__law_drawn G__law_word (by decide) m__law_word k__law_word b__law_word G__law_mixed (by decide) m__law_mixed k__law_mixed b__law_mixed Z_BadMove Z_BadText Z_NoPlait Z_PlaitError X_BadMove i_BadMove_BadText_NoPlait i_BadMove_PlaitError i_BadMove_ValueError m_enumerate m_isinstance m_ValueError (uni_law)) law_at
end K02
open PySem PySem.W PyProof.Rows
set_option maxRecDepth 100000 in
set_option maxHeartbeats 0 in
theorem PySem.Challenge.cw_strandsplaited_k02_moves_holds : PySem.Challenge.rw_strandsplaited_k02_moves.Holds := by
  w_on; o_law; k_head; (case hw => w_witness2)
  k_fill
  refine L2.walk_of (l := PySem.Challenge.rw_strandsplaited_k02_moves) (n := 63) (k := 4) (x := "script") (CX := fun _ => L2.CX0) (sp := fun w => DL.spLaw _) rfl (by decide) rfl ⟨rfl, by decide, by decide⟩ (fun w h Y => PySem.W.kIn_of Y) ?F (fun _ _ a ns hl _ hS => ⟨a, ns, rfl, hS, hl, fun _ => rfl⟩) (fun _ _ _ _ _ h => h)
  case F =>
    intro w mg fa h KX G hmg
    refine' K02.all_mk KX G hmg ?a_is_word ?l_is_word ?c_is_word ?k_is_word ?a_is_move ?l_is_move ?c_is_move ?k_is_move ?a__is_pair ?l__is_pair ?c__is_pair ?k__is_pair ?a__is_exchange ?l__is_exchange ?c__is_exchange ?k__is_exchange ?a__is_turn ?l__is_turn ?c__is_turn ?k__is_turn ?a__stands_there ?l__stands_there ?c__stands_there ?k__stands_there ?a_made ?l_made ?c_made ?k_made ?a__law_mixed ?l__law_mixed ?c__law_mixed ?k__law_mixed ?a__law_word ?l__law_word ?c__law_word ?k__law_word ?a__law_is_letters ?l__law_is_letters ?c__law_is_letters ?k__law_is_letters ?a__law_is_move ?l__law_is_move ?c__law_is_move ?k__law_is_move ?a__law_made ?l__law_made ?c__law_made ?k__law_made ?a__law_moves_there ?l__law_moves_there ?c__law_moves_there ?k__law_moves_there ?a__law_some_move ?l__law_some_move ?c__law_some_move ?k__law_some_move ?a__law_same ?l__law_same ?c__law_same ?k__law_same ?a__law_says ?l__law_says ?c__law_says ?k__law_says ?a__law_letters ?l__law_letters ?c__law_letters ?k__law_letters ?a__law_by_turns ?l__law_by_turns ?c__law_by_turns ?k__law_by_turns ?a__law_drawn ?l__law_drawn ?c__law_drawn ?k__law_drawn ?a_law ?l_law ?c_law ?k_law ?z_all ?z_abs ?z_len ?z_tuple ?z_int ?z_range ?z_isinstance ?z_bool ?z_list ?z_enumerate ?z_ValueError ?a_BadMove ?q_BadMove ?kk_BadMove ?s_BadMove ?t_BadMove ?hd_BadMove ?ss_BadMove ?a_BadText ?q_BadText ?kk_BadText ?s_BadText ?t_BadText ?hd_BadText ?ss_BadText ?a_NoPlait ?q_NoPlait ?kk_NoPlait ?s_NoPlait ?t_NoPlait ?hd_NoPlait ?ss_NoPlait ?a_PlaitError ?q_PlaitError ?kk_PlaitError ?s_PlaitError ?t_PlaitError ?hd_PlaitError ?ss_PlaitError ?x1_BadMove ?x2_BadMove ?x4_BadMove ?x5_BadMove ?x6_BadMove ?x7_BadMove ?u_BadMove_BadText ?n_BadMove_BadText ?u_BadMove_NoPlait ?n_BadMove_NoPlait ?u_BadMove_PlaitError ?u_BadMove_ValueError
    (case a_is_word => k_is); (case l_is_word => k_is); (case c_is_word => k_is); (case k_is_word => k_is)
    (case a_is_move => k_is); (case l_is_move => k_is); (case c_is_move => k_is); (case k_is_move => k_is)
    (case a__is_pair => k_is); (case l__is_pair => k_is); (case c__is_pair => k_is); (case k__is_pair => k_is)
    (case a__is_exchange => k_is); (case l__is_exchange => k_is); (case c__is_exchange => k_is); (case k__is_exchange => k_is)
    (case a__is_turn => k_is); (case l__is_turn => k_is); (case c__is_turn => k_is); (case k__is_turn => k_is)
    (case a__stands_there => k_is); (case l__stands_there => k_is); (case c__stands_there => k_is); (case k__stands_there => k_is)
    (case a_made => k_is); (case l_made => k_is); (case c_made => k_is); (case k_made => k_is)
    (case a__law_mixed => k_is); (case l__law_mixed => k_is); (case c__law_mixed => k_is); (case k__law_mixed => k_is)
    (case a__law_word => k_is); (case l__law_word => k_is); (case c__law_word => k_is); (case k__law_word => k_is)
    (case a__law_is_letters => k_is); (case l__law_is_letters => k_is); (case c__law_is_letters => k_is); (case k__law_is_letters => k_is)
    (case a__law_is_move => k_is); (case l__law_is_move => k_is); (case c__law_is_move => k_is); (case k__law_is_move => k_is)
    (case a__law_made => k_is); (case l__law_made => k_is); (case c__law_made => k_is); (case k__law_made => k_is)
    (case a__law_moves_there => k_is); (case l__law_moves_there => k_is); (case c__law_moves_there => k_is); (case k__law_moves_there => k_is)
    (case a__law_some_move => k_is); (case l__law_some_move => k_is); (case c__law_some_move => k_is); (case k__law_some_move => k_is)
    (case a__law_same => k_is); (case l__law_same => k_is); (case c__law_same => k_is); (case k__law_same => k_is)
    (case a__law_says => k_is); (case l__law_says => k_is); (case c__law_says => k_is); (case k__law_says => k_is)
    (case a__law_letters => k_is); (case l__law_letters => k_is); (case c__law_letters => k_is); (case k__law_letters => k_is)
    (case a__law_by_turns => k_is); (case l__law_by_turns => k_is); (case c__law_by_turns => k_is); (case k__law_by_turns => k_is)
    (case a__law_drawn => k_is); (case l__law_drawn => k_is); (case c__law_drawn => k_is); (case k__law_drawn => k_is)
    (case a_law => k_is); (case l_law => k_is); (case c_law => k_is); (case k_law => k_is)
    (case z_all => k_is); (case z_abs => k_is); (case z_len => k_is); (case z_tuple => k_is)
    (case z_int => k_is); (case z_range => k_is); (case z_isinstance => k_is); (case z_bool => k_is)
    (case z_list => k_is); (case z_enumerate => k_is); (case z_ValueError => k_is); (case a_BadMove => k_is)
    (case q_BadMove => k_exc); (case kk_BadMove => k_is); (case s_BadMove => k_is); (case t_BadMove => k_is)
    (case hd_BadMove => k_is); (case ss_BadMove => k_is); (case a_BadText => k_is); (case q_BadText => k_exc)
    (case kk_BadText => k_is); (case s_BadText => k_is); (case t_BadText => k_is); (case hd_BadText => k_is)
    (case ss_BadText => k_is); (case a_NoPlait => k_is); (case q_NoPlait => k_exc); (case kk_NoPlait => k_is)
    (case s_NoPlait => k_is); (case t_NoPlait => k_is); (case hd_NoPlait => k_is); (case ss_NoPlait => k_is)
    (case a_PlaitError => k_is); (case q_PlaitError => k_exc); (case kk_PlaitError => k_is); (case s_PlaitError => k_is)
    (case t_PlaitError => k_is); (case hd_PlaitError => k_is); (case ss_PlaitError => k_is); (case x1_BadMove => k_is)
    (case x2_BadMove => k_is); (case x4_BadMove => k_is); (case x5_BadMove => k_is); (case x6_BadMove => k_is)
    (case x7_BadMove => k_is); (case u_BadMove_BadText => k_is); (case n_BadMove_BadText => decide +kernel); (case u_BadMove_NoPlait => k_is)
    (case n_BadMove_NoPlait => decide +kernel); (case u_BadMove_PlaitError => k_is); (case u_BadMove_ValueError => k_is)
