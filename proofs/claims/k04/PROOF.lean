import PyProof.Rows.All
import Wide.All
import OpenK.AllK
import Wide.FinOn
import HandS.ForMost
import HandS.Conv
import HandS.Flow
import HandS.Style
import HandS.TupAny
import HandS.TupMul
import HandS.Wide
import HandS.IsInst
import HandS.Deep
import HandS.SortInts
import HandS.ForExc
import HandS.ExcIs
import HandS.NoneIn
import HandS.Strs
import HandS.More
import KE.GoesEnum
import HandS.Zip
import KE.SortData
import KE.DataMinMax
import PySem.Challenge.RW_strandsplaited_k04_rows
set_option Elab.async false
set_option linter.all false
set_option maxRecDepth 100000
set_option maxHeartbeats 4000000
/-! DL: a layer of data over the hand layer: what a def yields, as a plain function of plain data. -/
namespace DL
open PySem PySem.Spec PyProof.Rows L2

theorem sqt_mono {K : PySem.W.Frag} {H H' : Hp} {a : Addr} {xs : List V} (e : Same H H') (h : SqT K H a xs) : SqT K H' a xs := by
  rcases h with (h | ⟨o, h⟩) | h
  · exact .inl (.inl (e _ _ h))
  · exact .inl (.inr ⟨o, e _ _ h⟩)
  · exact .inr h
theorem same_upd {H : Hp} {p : Addr} {o : HO} (h : H p = none) : Same H (upd H p o) := fun b x e => by
  rw [upd_ne (ne_of_none e h)]
  exact e
theorem same_mut {H H' : Hp} {p : Addr} {o : HO} (e : Same H H') (h : H p = none) : Same H (upd H' p o) := fun b x q => by
  rw [upd_ne (ne_of_none q h)]
  exact e _ _ q

mutual
theorem dp_mono {K : PySem.W.Frag} {H H' : Hp} (e : Same H H') : ∀ (d : PyData) (v : V), Dp K H v d → Dp K H' v d
  | .none, _, h => by cases h; exact .non
  | .bool b, _, h => by cases h; exact .bl b
  | .int i, _, h => by cases h; exact .int i
  | .str x, _, h => by cases h; exact .str x
  | .list ds, _, h => by
    cases h with
    | lst hs ha => exact .lst (e.seq hs) (dpa_mono e ds _ ha)
  | .tuple ds, _, h => by
    cases h with
    | tup hs ha => exact .tup (sqt_mono e hs) (dpa_mono e ds _ ha)
  | .dict _, _, h => by cases h
theorem dpa_mono {K : PySem.W.Frag} {H H' : Hp} (e : Same H H') : ∀ (ds : List PyData) (vs : List V), DpAll K H vs ds → DpAll K H' vs ds
  | [], _, h => by cases h; exact .nil
  | d :: ds, _, h => by
    cases h with
    | cons h1 h2 => exact .cons (dp_mono e d _ h1) (dpa_mono e ds _ h2)
end
section
variable {K : PySem.W.Frag} {H : Hp}
theorem dpa_len : ∀ {vs : List V} {ds : List PyData}, DpAll K H vs ds → vs.length = ds.length
  | _, _, .nil => rfl
  | _, _, .cons _ t => by rw [List.length_cons, List.length_cons, dpa_len t]
theorem dpa_app : ∀ {vs ws : List V} {ds es : List PyData}, DpAll K H vs ds → DpAll K H ws es → DpAll K H (vs ++ ws) (ds ++ es)
  | _, _, _, _, .nil, h => h
  | _, _, _, _, .cons a t, h => .cons a (dpa_app t h)
theorem dpa_take : ∀ {vs : List V} {ds : List PyData} (n : Nat), DpAll K H vs ds → DpAll K H (vs.take n) (ds.take n)
  | _, _, 0, _ => by rw [List.take_zero, List.take_zero]; exact .nil
  | _, _, _ + 1, .nil => .nil
  | _, _, n + 1, .cons a t => .cons a (dpa_take n t)
theorem dpa_drop : ∀ {vs : List V} {ds : List PyData} (n : Nat), DpAll K H vs ds → DpAll K H (vs.drop n) (ds.drop n)
  | _, _, 0, h => h
  | _, _, _ + 1, .nil => .nil
  | _, _, n + 1, .cons a t => dpa_drop n t
theorem dpa_get : ∀ {vs : List V} {ds : List PyData} {i : Nat} {d : PyData}, DpAll K H vs ds → ds[i]? = some d → ∃ v, vs[i]? = some v ∧ Dp K H v d
  | _, _, _, _, .nil, e => by simp at e
  | _, _, 0, _, .cons r _, e => by simp at e; subst e; exact ⟨_, rfl, r⟩
  | _, _, i + 1, _, .cons _ t, e => by
    obtain ⟨u, h1, h2⟩ := dpa_get (i := i) t (by simpa using e)
    exact ⟨u, by simpa using h1, h2⟩
theorem dpa_at : ∀ {vs : List V} {ds : List PyData} {i : Nat} {v : V}, DpAll K H vs ds → vs[i]? = some v → ∃ d, ds[i]? = some d ∧ Dp K H v d
  | _, _, _, _, .nil, e => by simp at e
  | _, _, 0, _, .cons r _, e => by simp at e; subst e; exact ⟨_, rfl, r⟩
  | _, _, i + 1, _, .cons _ t, e => by
    obtain ⟨u, h1, h2⟩ := dpa_at (i := i) t (by simpa using e)
    exact ⟨u, by simpa using h1, h2⟩
theorem dpa_set {v : V} {d : PyData} (r : Dp K H v d) : ∀ {vs : List V} {ds : List PyData} (i : Nat), DpAll K H vs ds → DpAll K H (vs.set i v) (ds.set i d)
  | _, _, _, .nil => .nil
  | _, _, 0, .cons _ t => .cons r t
  | _, _, i + 1, .cons q t => .cons q (dpa_set r i t)
theorem dpa_ints : ∀ ns : List Int, DpAll K H (ns.map V.int) (ns.map PyData.int)
  | [] => .nil
  | n :: ns => .cons (.int n) (dpa_ints ns)
theorem dpa_ints' : ∀ {vs : List V} {ns : List Int}, DpAll K H vs (ns.map PyData.int) → vs = ns.map V.int
  | _, [], h => by cases h; rfl
  | _, n :: ns, h => by
    cases h with
    | cons a t =>
      cases a
      rw [dpa_ints' t, List.map_cons]
end

/-! ### slots, results -/
inductive Slot where
  | und
  | d (x : PyData)
  | own (xs : List PyData)
  | pin (v : V)
abbrev Rho := List Slot
inductive Res where
  | fz (x : PyData)
  | nw (xs : List PyData)
  | br (xs : List PyData)
def Res.rd : Res → PyData
  | .fz x => x
  | .nw xs => .list xs
  | .br xs => .list xs

def SlRep (K : PySem.W.Frag) (B Hf H : Hp) : Slot → Option V → Prop
  | .und, _ => True
  | .d x, o => ∃ v, o = some v ∧ Dp K Hf v x
  | .own xs, o => ∃ p vs, o = some (.ref p) ∧ Hf p = none ∧ B p = none ∧ H p = some (.lst vs) ∧ DpAll K Hf vs xs
  | .pin v, o => o = some v
/-- no tuple that stands still has a dict of its own -/
structure Bn (H : Hp) : Prop where
  nt : ∀ a xs, H a = some (.tup xs) → False
  fz : ∀ a ob xs, H a = some (.frz ob (.tup xs)) → ob.dict = none
structure NT (o : HO) : Prop where
  nt : ∀ xs, o = .tup xs → False
  fz : ∀ ob xs, o = .frz ob (.tup xs) → ob.dict = none
theorem NT.lst {xs : List V} : NT (.lst xs) := ⟨fun _ e => (nomatch e), fun _ _ e => (nomatch e)⟩
theorem NT.tupF {ob : Obj} {xs : List V} (h : ob.dict = none) : NT (.frz ob (.tup xs)) := ⟨fun _ e => (nomatch e), fun _ _ e => by cases e; exact h⟩
theorem Bn.upd {H : Hp} {p : Addr} {o : HO} (b : Bn H) (n : NT o) : Bn (L2.upd H p o) := ⟨fun a xs e => by
    by_cases z : a = p
    · subst z; rw [upd_same] at e; cases e; exact n.nt _ rfl
    · rw [upd_ne z] at e; exact b.nt a xs e, fun a ob xs e => by
    by_cases z : a = p
    · subst z; rw [upd_same] at e; cases e; exact n.fz _ _ rfl
    · rw [upd_ne z] at e; exact b.fz a ob xs e⟩
structure ER (K : PySem.W.Frag) (B Hf H : Hp) (σ : L2.St) (ρ : Rho) : Prop where
  fh : Same Hf H
  bh : Same B H
  len : σ.length = ρ.length
  sl : ∀ (i : Nat) (s : Slot) (o : Option V), ρ[i]? = some s → σ[i]? = some o → SlRep K B Hf H s o
  bn : Bn Hf
  dj : ∀ (i j : Nat) (xs ys : List PyData) (p : Addr), i ≠ j → ρ[i]? = some (.own xs) → ρ[j]? = some (.own ys) → σ[i]? = some (some (.ref p)) → σ[j]? = some (some (.ref p)) → False

/-- what an expression may do -/
structure Gr (Hf H Hf' H' : Hp) : Prop where
  f : Same Hf Hf'
  h : Same H H'
  fh : Same Hf' H'
  un : ∀ a o, H a = some o → Hf a = none → Hf' a = none
  bn : Bn Hf → Bn Hf'
theorem Gr.refl {Hf H : Hp} (e : Same Hf H) : Gr Hf H Hf H := ⟨Same.refl _, Same.refl _, e, fun _ _ _ h => h, fun b => b⟩
theorem Gr.trans {Hf H Hf1 H1 Hf2 H2 : Hp} (a : Gr Hf H Hf1 H1) (b : Gr Hf1 H1 Hf2 H2) : Gr Hf H Hf2 H2 :=
  ⟨a.f.trans b.f, a.h.trans b.h, b.fh, fun x o e n => b.un x o (a.h x o e) (a.un x o e n), fun z => b.bn (a.bn z)⟩
/-- a new object, frozen at once -/
theorem Gr.new {Hf H : Hp} {p : Addr} {o : HO} (e : Same Hf H) (h : H p = none) (nt : NT o := by exact NT.lst) : Gr Hf H (upd Hf p o) (upd H p o) := by
  have hf : Hf p = none := e.free h
  refine ⟨same_upd hf, same_upd h, fun a x q => ?_, fun a x q n => ?_, fun b => b.upd nt⟩
  · by_cases z : a = p
    · subst z; rw [upd_same] at q ⊢; exact q
    · rw [upd_ne z] at q ⊢; exact e _ _ q
  · rw [upd_ne (ne_of_none q h)]; exact n
/-- a new object, not frozen -/
theorem Gr.newU {Hf H : Hp} {p : Addr} {o : HO} (e : Same Hf H) (h : H p = none) : Gr Hf H Hf (upd H p o) :=
  ⟨Same.refl _, same_upd h, e.trans (same_upd h), fun _ _ _ n => n, fun b => b⟩

def RR (K : PySem.W.Frag) (B H0 Hf H : Hp) (v : V) : Res → Prop
  | .fz x => Dp K Hf v x
  | .nw xs => ∃ p vs, v = .ref p ∧ H0 p = none ∧ Hf p = none ∧ H p = some (.lst vs) ∧ DpAll K Hf vs xs
  | .br xs => ∃ p vs, v = .ref p ∧ Hf p = none ∧ B p = none ∧ H p = some (.lst vs) ∧ DpAll K Hf vs xs

section
variable {K : PySem.W.Frag} {B H0 Hf H Hf' H' : Hp} {σ : L2.St} {ρ : Rho} {v : V} {r : Res}
theorem ER.grow (er : ER K B Hf H σ ρ) (g : Gr Hf H Hf' H') : ER K B Hf' H' σ ρ := by
  refine ⟨g.fh, er.bh.trans g.h, er.len, fun i s o h1 h2 => ?_, g.bn er.bn, er.dj⟩
  have q := er.sl i s o h1 h2
  cases s with
  | und => trivial
  | pin v => exact q
  | d x => obtain ⟨v, e, hd⟩ := q; exact ⟨v, e, dp_mono g.f _ _ hd⟩
  | own xs =>
    obtain ⟨p, vs, e, h3, h4, h5, h6⟩ := q
    exact ⟨p, vs, e, g.un p _ h5 h3, h4, g.h _ _ h5, dpa_mono g.f _ _ h6⟩
theorem RR.grow (q : RR K B H0 Hf H v r) (g : Gr Hf H Hf' H') : RR K B H0 Hf' H' v r := by
  cases r with
  | fz x => exact dp_mono g.f _ _ q
  | nw xs => obtain ⟨p, vs, e, h0, h3, h5, h6⟩ := q; exact ⟨p, vs, e, h0, g.un p _ h5 h3, g.h _ _ h5, dpa_mono g.f _ _ h6⟩
  | br xs => obtain ⟨p, vs, e, h3, h4, h5, h6⟩ := q; exact ⟨p, vs, e, g.un p _ h5 h3, h4, g.h _ _ h5, dpa_mono g.f _ _ h6⟩
theorem RR.back {H1 : Hp} (q : RR K B H1 Hf H v r) (s : Same H0 H1) : RR K B H0 Hf H v r := by
  cases r with
  | fz x => exact q
  | nw xs => obtain ⟨p, vs, e, h0, h3⟩ := q; exact ⟨p, vs, e, s.free h0, h3⟩
  | br xs => exact q
theorem RR.dp (q : RR K B H0 Hf H v r) (e : Same Hf H) : Dp K H v r.rd := by
  cases r with
  | fz x => exact dp_mono e _ _ q
  | nw xs => obtain ⟨p, vs, rfl, h0, h3, h5, h6⟩ := q; exact .lst (SqL.of h5) (dpa_mono e _ _ h6)
  | br xs => obtain ⟨p, vs, rfl, h3, h4, h5, h6⟩ := q; exact .lst (SqL.of h5) (dpa_mono e _ _ h6)
theorem RR.lst {xs : List PyData} (q : RR K B H0 Hf H v r) (e : Same Hf H) (h : r.rd = .list xs) : ∃ a vs, v = .ref a ∧ SqL K H a vs ∧ DpAll K Hf vs xs := by
  cases r with
  | fz x =>
    have h' : x = .list xs := h
    subst h'
    have q' : Dp K Hf v (.list xs) := q
    cases q' with
    | lst hs ha => exact ⟨_, _, rfl, e.seq hs, ha⟩
  | nw ys =>
    obtain ⟨p, vs, rfl, h0, h3, h5, h6⟩ := q
    cases h
    exact ⟨_, _, rfl, SqL.of h5, h6⟩
  | br ys =>
    obtain ⟨p, vs, rfl, h3, h4, h5, h6⟩ := q
    cases h
    exact ⟨_, _, rfl, SqL.of h5, h6⟩
theorem RR.fz_of {x : PyData} (q : RR K B H0 Hf H v r) (h : r.rd = x) (hn : ∀ xs, x ≠ .list xs) : Dp K Hf v x := by
  cases r with
  | fz y => cases h; exact q
  | nw ys => exact absurd h.symm (hn ys)
  | br ys => exact absurd h.symm (hn ys)
theorem RR.tup {xs : List PyData} (q : RR K B H0 Hf H v r) (h : r.rd = .tuple xs) : ∃ a vs, v = .ref a ∧ SqT K Hf a vs ∧ DpAll K Hf vs xs := by
  have q' := q.fz_of h (fun _ z => by cases z)
  cases q' with
  | tup hs ha => exact ⟨_, _, rfl, hs, ha⟩
theorem RR.int {i : Int} (q : RR K B H0 Hf H v r) (h : r.rd = .int i) : v = .int i := by
  have q' := q.fz_of h (fun _ z => by cases z)
  cases q'; rfl
theorem RR.bl {i : Bool} (q : RR K B H0 Hf H v r) (h : r.rd = .bool i) : v = .bl i := by
  have q' := q.fz_of h (fun _ z => by cases z)
  cases q'; rfl
theorem RR.str {i : Str} (q : RR K B H0 Hf H v r) (h : r.rd = .str i) : v = .str i := by
  have q' := q.fz_of h (fun _ z => by cases z)
  cases q'; rfl
theorem RR.non (q : RR K B H0 Hf H v r) (h : r.rd = .none) : v = .non := by
  have q' := q.fz_of h (fun _ z => by cases z)
  cases q'; rfl
/-- made to stand still -/
def Res.fr : Res → Option PyData
  | .fz x => some x
  | .nw xs => some (.list xs)
  | .br _ => none
/-- a result that is no slot's own list is frozen -/
theorem RR.freeze {x : PyData} (er : ER K B Hf H σ ρ) (g : Gr Hf H Hf' H') (q : RR K B H Hf' H' v r) (h : r.fr = some x) : ∃ Hf2, Gr Hf H Hf2 H' ∧ Same Hf' Hf2 ∧ Dp K Hf2 v x := by
  cases r with
  | fz y => cases h; exact ⟨Hf', g, Same.refl _, q⟩
  | nw ys =>
    obtain ⟨p, vs, rfl, h0, h3, h5, h6⟩ := q
    cases h
    refine ⟨upd Hf' p (.lst vs), ⟨g.f.trans (same_upd h3), g.h, fun a o e => ?_, fun a o e n => ?_, fun b => (g.bn b).upd .lst⟩, same_upd h3, .lst (SqL.of upd_same) (dpa_mono (same_upd h3) _ _ h6)⟩
    · by_cases z : a = p
      · subst z; rw [upd_same] at e; cases e; exact h5
      · rw [upd_ne z] at e; exact g.fh _ _ e
    · rw [upd_ne (ne_of_none e h0)]; exact g.un a o e n
  | br ys => cases h
end

/-! ### the judgements -/
abbrev FE := Rho → Option Res
def tD (K : PySem.W.Frag) (f : FE) : TE := fun σ H Q => ∃ B Hf ρ r, ER K B Hf H σ ρ ∧ f ρ = some r ∧ ∀ v Hf' H', Gr Hf H Hf' H' → RR K B H Hf' H' v r → Q v H'
abbrev DE (X : Cx) (e : Expr) (f : FE) : Prop := PE X e (tD X.K f)
def tDT (K : PySem.W.Frag) (f : Rho → Option Bool) : TT := fun σ H Q => ∃ B Hf ρ b, ER K B Hf H σ ρ ∧ f ρ = some b ∧ ∀ Hf' H', Gr Hf H Hf' H' → Q b H'
abbrev DT (X : Cx) (e : Expr) (f : Rho → Option Bool) : Prop := PT X e (tDT X.K f)
abbrev FA := Rho → Option (List Res)
inductive RRs (K : PySem.W.Frag) (B H0 Hf H : Hp) : List V → List Res → Prop
  | nil : RRs K B H0 Hf H [] []
  | cons {v : V} {vs : List V} {r : Res} {rs : List Res} : RR K B H0 Hf H v r → RRs K B H0 Hf H vs rs → RRs K B H0 Hf H (v :: vs) (r :: rs)
def tDA (K : PySem.W.Frag) (f : FA) : TA := fun σ H Q => ∃ B Hf ρ rs, ER K B Hf H σ ρ ∧ f ρ = some rs ∧ ∀ vs Hf' H', Gr Hf H Hf' H' → RRs K B H Hf' H' vs rs → Q vs H'
abbrev DA (X : Cx) (es : List Expr) (f : FA) : Prop := PA X es (tDA X.K f)

theorem pe_mono {X : Cx} {e : Expr} {t t' : TE} (h : PE X e t) (k : ∀ σ H Q, t' σ H Q → t σ H Q) : PE X e t' := ⟨fun pins s σ H Q I q => h.run pins s σ H Q I (k _ _ _ q)⟩
theorem pt_mono {X : Cx} {e : Expr} {t t' : TT} (h : PT X e t) (k : ∀ σ H Q, t' σ H Q → t σ H Q) : PT X e t' := ⟨fun pins s σ H Q I q => h.run pins s σ H Q I (k _ _ _ q)⟩
theorem pa_mono {X : Cx} {e : List Expr} {t t' : TA} (h : PA X e t) (k : ∀ σ H Q, t' σ H Q → t σ H Q) : PA X e t' := ⟨fun pos pins s σ H Q I q => h.run pos pins s σ H Q I (k _ _ _ q)⟩
theorem ps_mono {X : Cx} {e : Stmt} {t t' : TS} (h : PS X e t) (k : ∀ D σ H, t' D σ H → t D σ H) : PS X e t' := ⟨fun pins s σ H D I q => h.run pins s σ H D I (k _ _ _ q)⟩
theorem pss_mono {X : Cx} {e : List Stmt} {t t' : TS} (h : PSs X e t) (k : ∀ D σ H, t' D σ H → t D σ H) : PSs X e t' := ⟨fun pins s σ H D I q => h.run pins s σ H D I (k _ _ _ q)⟩
theorem pi_mono {X : Cx} {tg e : Expr} {t t' : TI} (h : PI X tg e t) (k : ∀ σ H Q, t' σ H Q → t σ H Q) : PI X tg e t' := ⟨fun pins s σ H Q I q => h.run pins s σ H Q I (k _ _ _ q)⟩
theorem pg_mono {X : Cx} {e : Expr} {t t' : TG} (h : PG X e t) (k : ∀ v σ H Q, t' v σ H Q → t v σ H Q) : PG X e t' := ⟨fun pins s σ H v u Q I r q => h.run pins s σ H v u Q I r (k _ _ _ _ q)⟩

section
variable {X : Cx} {a b c e : Expr} {es : List Expr} {fa fb fc : FE} {pos : Pos}

/-! ### names, constants -/
def fVar (i : Nat) : FE := fun ρ => match ρ[i]? with
  | some (.d x) => some (.fz x)
  | some (.own xs) => some (.br xs)
  | _ => none
theorem d_var (i : Nat) {x : Str} {pos : Pos} (hN : X.N[i]? = some x := by rfl) (hv : Vis X.env.scope x := by first | exact Or.inl rfl | exact Or.inr (Or.inl rfl) | exact Or.inr (Or.inr rfl)) (hd : (x == ("__debug__" : Str)) = false := by decide)
    (hcd : (x == ("__classdict__" : Str)) = false := by decide) : DE X (.Name x pos) (fVar i) := pe_mono (pe_var hN hv hd hcd) fun σ H Q h => by
  obtain ⟨B, Hf, ρ, r, er, hf, k⟩ := h
  unfold fVar at hf
  cases hs : ρ[i]? with
  | none => rw [hs] at hf; cases hf
  | some s =>
    rw [hs] at hf
    have hi : i < σ.length := by rw [er.len]; exact (List.getElem?_eq_some_iff.mp hs).1
    have ho : σ[i]? = some σ[i] := List.getElem?_eq_getElem hi
    have q := er.sl i s _ hs ho
    cases s with
    | und => cases hf
    | pin v => cases hf
    | d x =>
      cases hf
      obtain ⟨v, e, hd⟩ := q
      exact ⟨v, by rw [ho, e], k v Hf H (Gr.refl er.fh) hd⟩
    | own xs =>
      cases hf
      obtain ⟨p, vs, e, h3, h4, h5, h6⟩ := q
      exact ⟨.ref p, by rw [ho, e], k _ Hf H (Gr.refl er.fh) ⟨p, vs, rfl, h3, h4, h5, h6⟩⟩
def fC (x : PyData) : FE := fun _ => some (.fz x)
theorem d_c {v : V} {x : PyData} (h : PE X e (tC v)) (hd : ∀ H, Dp X.K H v x) : DE X e (fC x) := pe_mono h fun σ H Q h => by
  obtain ⟨B, Hf, ρ, r, er, hf, k⟩ := h
  cases hf
  exact k v Hf H (Gr.refl er.fh) (hd _)
theorem d_int {i j pos} : DE X (.Constant (.int i) j pos) (fC (.int i)) := d_c pe_int fun _ => .int _
theorem d_bl {i j pos} : DE X (.Constant (.bool i) j pos) (fC (.bool i)) := d_c pe_bl fun _ => .bl _
theorem d_non {j pos} : DE X (.Constant .none j pos) (fC .none) := d_c pe_non fun _ => .non
theorem d_str {i j pos} : DE X (.Constant (.str i) j pos) (fC (.str i)) := d_c pe_str fun _ => .str _
theorem d_glob {x : Str} {v : V} {y : PyData} {u : Value} {pos : Pos} (hg : Gl X x) (hm : X.mg x = some u) (r : RelV v u) (hd : ∀ H, Dp X.K H v y) (h2 : (x == ("__debug__" : Str)) = false := by decide) : DE X (.Name x pos) (fC y) := d_c (pe_glob hg hm r h2) hd

/-! ### two operands -/
/-- what an operation on values asks, by data -/
def Op2 (K : PySem.W.Frag) (r : R2) (g : PyData → PyData → Option Res) : Prop :=
  ∀ (B H0 Hf H : Hp) (v u : V) (a b c : Res) (Q : VK), Same Hf H → Same H0 H → RR K B H0 Hf H v a → RR K B H0 Hf H u b → g a.rd b.rd = some c →
    (∀ w Hf' H', Gr Hf H Hf' H' → RR K B H Hf' H' w c → Q w H') → r v u H Q
def f2 (g : PyData → PyData → Option Res) (fa fb : FE) : FE := fun ρ => (fa ρ).bind fun a => (fb ρ).bind fun b => g a.rd b.rd
theorem ent2 {K : PySem.W.Frag} {r : R2} {g : PyData → PyData → Option Res} (o : Op2 K r g) : ∀ σ H Q, tD K (f2 g fa fb) σ H Q → tOp r (tD K fa) (tD K fb) σ H Q := fun σ H Q h => by
  obtain ⟨B, Hf, ρ, c, er, hf, k⟩ := h
  unfold f2 at hf
  obtain ⟨ra, h1, hf⟩ := Option.bind_eq_some_iff.mp hf
  obtain ⟨rb, h2, hf⟩ := Option.bind_eq_some_iff.mp hf
  refine ⟨B, Hf, ρ, ra, er, h1, fun v Hf1 H1 g1 q1 => ⟨B, Hf1, ρ, rb, er.grow g1, h2, fun u Hf2 H2 g2 q2 => ?_⟩⟩
  have g12 := g1.trans g2
  exact o B H Hf2 H2 v u ra rb c Q g2.fh g12.h (q1.grow g2) (q2.back g1.h) hf fun w Hf3 H3 g3 q3 => k w Hf3 H3 (g12.trans g3) (q3.back g12.h)
theorem d_op {op : Operator} {r : R2} {g : PyData → PyData → Option Res} (ho : OpR X (binaryOp op) r) (o : Op2 X.K r g) (ha : DE X a fa) (hb : DE X b fb) : DE X (.BinOp a op b pos) (f2 g fa fb) := pe_mono (pe_op ho ha hb) (ent2 o)
theorem d_cmp {op : CmpOp} {r : R2} {g : PyData → PyData → Option Res} (ho : OpR X (compareOp op) r) (o : Op2 X.K r g) (ha : DE X a fa) (hb : DE X b fb) (hm : behindInMarks op b = false) : DE X (.Compare a [op] [b] pos) (f2 g fa fb) := pe_mono (pe_cmpR ho ha hb hm) (ent2 o)
/-- a bool, as a test -/
def fB (f : FE) : Rho → Option Bool := fun ρ => (f ρ).bind fun r => match r.rd with
  | .bool b => some b
  | _ => none
theorem fB_some {f : FE} {ρ : Rho} {b : Bool} (h : fB f ρ = some b) : ∃ r, f ρ = some r ∧ r.rd = .bool b := by
  unfold fB at h
  obtain ⟨r, h1, h2⟩ := Option.bind_eq_some_iff.mp h
  refine ⟨r, h1, ?_⟩
  split at h2
  · rename_i q; cases h2; exact q
  · cases h2
theorem t_cmp {op : CmpOp} {r : R2} {g : PyData → PyData → Option Res} (ho : OpR X (compareOp op) r) (o : Op2 X.K r g) (ha : DE X a fa) (hb : DE X b fb) (hm : behindInMarks op b = false) : DT X (.Compare a [op] [b] pos) (fB (f2 g fa fb)) := pt_mono (pt_cmpR ho ha hb hm) fun σ H Q h => by
  obtain ⟨B, Hf, ρ, c, er, hf, k⟩ := h
  obtain ⟨r', h1, h2⟩ := fB_some hf
  exact ent2 o σ H _ ⟨B, Hf, ρ, r', er, h1, fun v Hf' H' g' q => ⟨c, q.bl h2, k Hf' H' g'⟩⟩

theorem Op2.or {K : PySem.W.Frag} {r r' : R2} {g g' : PyData → PyData → Option Res} (h : Op2 K r g) (h' : Op2 K r' g') : Op2 K (fun x y H Q => r x y H Q ∨ r' x y H Q) (fun a b => (g a b).or (g' a b)) := fun B H0 Hf H v u a b c Q e1 e2 q1 q2 hg k => by
  rcases Option.or_eq_some_iff.mp hg with z | ⟨_, z⟩
  · exact .inl (h B H0 Hf H v u a b c Q e1 e2 q1 q2 z k)
  · exact .inr (h' B H0 Hf H v u a b c Q e1 e2 q1 q2 z k)
end
end DL
/-! tuples that are made, with their very object known: it has no dict of items own (a method of theirs can be called then) -/
namespace DL
open PySem PySem.Spec PyProof.Rows L2 HT
section
variable {X : Cx} {es : List Expr} {pos : Pos}
theorem sqt_frz {K : PySem.W.Frag} {H : Hp} {p : Addr} {ob : Obj} {xs : List V} (h : H p = some (.frz ob (.tup xs))) : SqT K H p xs := .inl (.inr ⟨ob, h⟩)
/-- a new tuple at p -/
def NewT (xs : List V) (H : Hp) (Q : VK) : Prop := ∀ p ob, H p = none → ob.dict = none → Q (.ref p) (upd H p (.frz ob (.tup xs)))
/-- the tuple that was just laid behind the heap h -/
theorem laid_tup {pins : List (Addr × Obj)} {σ : L2.St} {H : Hp} {s : Shared} {t' : Nat} {xs : List V} {items : List Value} {Q : VK} (I : Inv X pins σ H s) (r : Vals xs items) (small : xs.length ≤ sizeLine) (q : NewT xs H Q) :
    EP X pins σ Q (.ref s.heap.objs.size) { s with heap := s.heap.push { cls := .type "tuple", data := .seq items.toArray }, toks := t' } :=
  ⟨.ref _, _, I.laid (t' := t') (o := .frz { cls := .type "tuple", data := .seq items.toArray } (.tup xs)) (fun b ob e => Heap.get?_push_of_some _ e) (Nat.le_refl _) ⟨Heap.get?_push_size _ rfl, small, items, r, IsTup.new _ _⟩, rfl, q _ _ (I.hok.fresh (Nat.le_refl _)) rfl⟩
def tTupF (t : TA) : TE := fun σ H Q => t σ H fun xs H1 => xs.length ≤ sizeLine ∧ NewT xs H1 Q
theorem pe_tupF {t : TA} {k : Nat} (h : PA X es t) : PE X (.Tuple es k pos) (tTupF t) := ⟨fun pins s σ H Q I hq =>
  wpAny_Tuple_spliced (thn (h.run pos pins s σ H _ I hq) fun us s1 ⟨xs, H1, I1, r, z, q⟩ => ⟨by rw [← r.length]; exact z, laid_tup (t' := s1.toks) I1 r z q⟩)⟩
def rCatF (K : PySem.W.Frag) : R2 := fun x y H Q => ∃ a b xs ys, x = .ref a ∧ y = .ref b ∧ SqT K H a xs ∧ SqT K H b ys ∧ xs.length + ys.length ≤ sizeLine ∧
  (xs = [] → Q (.ref b) H) ∧ (xs ≠ [] → ys = [] → Q (.ref a) H) ∧ (xs ≠ [] → ys ≠ [] → NewT (xs ++ ys) H Q)
theorem op_catF : OpR X (binaryOp .Add) (rCatF X.K) := fun pins s σ H x y v u Q I rx ry h => by
  obtain ⟨a, b, xs, ys, rfl, rfl, ha, hb, small, q0, q1, q2⟩ := h
  cases rx
  cases ry
  obtain ⟨items, rel1, pa, _⟩ := I.tuple ha
  obtain ⟨items2, rel2, pb, _⟩ := I.tuple hb
  rcases xs with _ | ⟨x0, xs⟩
  · cases rel1
    exact cat_tup0 pa pb ⟨.ref b, H, I, rfl, q0 rfl⟩
  · have hx : x0 :: xs ≠ [] := fun e => nomatch e
    refine HT.cat_tup pa pb (fun z => hx (rel1.nil_iff.mp z)) (fun z => ⟨.ref a, H, I, rfl, q1 hx (rel2.nil_iff.mp z)⟩) (fun z => ?_) (by rw [← rel1.length, ← rel2.length]; exact small)
    exact laid_tup (t' := s.toks) I (rel1.append rel2) (by rw [List.length_append]; exact small) (q2 hx fun w => z (rel2.nil_iff.mpr w))
def rSlF (K : PySem.W.Frag) : V → Option Int → Option Int → Hp → VK → Prop := fun x lo hi H Q => ∃ a xs, x = .ref a ∧ SqT K H a xs ∧
  (HT.sIx xs.length 0 lo = 0 ∧ HT.sIx xs.length xs.length hi = xs.length → Q (.ref a) H) ∧ (¬ (HT.sIx xs.length 0 lo = 0 ∧ HT.sIx xs.length xs.length hi = xs.length) → NewT (cutV xs lo hi) H Q)
theorem sl_tupF : SlR X (rSlF X.K) := fun pins s σ H x v vl vu lo hi sl Q I rx hs pl pu h => by
  obtain ⟨a, xs, rfl, hx, q1, q2⟩ := h
  cases rx
  obtain ⟨items, r, ht, small⟩ := I.tuple hx
  have same : items.toArray.size = xs.length := by rw [List.size_toArray]; exact r.length.symm
  refine ⟨"tuple", _, PyProof.Rows.slot_tuple_getitem.lookup, ht.typeIs, ?_⟩
  by_cases whole : HT.sIx xs.length 0 lo = 0 ∧ HT.sIx xs.length xs.length hi = xs.length
  · exact getItem_tuple_whole ht hs pl pu (by rw [same]; exact whole) ⟨.ref a, H, I, rfl, q1 whole⟩
  · refine HT.getItem_tuple_cut ht hs pl pu (by rw [same]; exact whole) ?_ (by rw [same]; exact small)
    rw [same]
    exact laid_tup (t' := s.toks) I ((r.drop (HT.sIx xs.length 0 lo)).take (HT.sIx xs.length xs.length hi - HT.sIx xs.length 0 lo)) (Nat.le_trans (cutV_length xs lo hi) small) (q2 whole)
def rTupF (K : PySem.W.Frag) : List V → Hp → VK → Prop := fun xs H Q => ∃ p ys, xs = [.ref p] ∧ ((SqL K H p ys ∧ NewT ys H Q) ∨ (SqT K H p ys ∧ Q (.ref p) H))
theorem call_tupleF : CallR X (.type "tuple") (rTupF X.K) := fun pins s σ H xs us Q I r h => by
  obtain ⟨p, ys, rfl, h⟩ := h
  obtain ⟨u, rfl, rx⟩ := vals1 r
  cases rx
  rcases h with ⟨hq, q⟩ | ⟨hq, q⟩
  · obtain ⟨items, r', pl, small⟩ := I.list hq
    have same := r'.length
    refine call_tuple_list pl.isList (fun h' kp => ?_) (by simp only [List.size_toArray] <;> omega)
    have I1 : Inv X pins σ H { s with heap := h' } := I.kept (t' := s.toks) kp
    exact laid_tup (t' := s.toks) I1 r' small q
  · obtain ⟨items, r', pl, small⟩ := I.tuple hq
    exact call_tuple_same pl ⟨.ref p, H, I, rfl, q⟩
/-- t * k -/
def rRepF (K : PySem.W.Frag) : R2 := fun x y H Q => ∃ l k xs, x = .ref l ∧ y = .int k ∧ SqT K H l xs ∧ xs ≠ [] ∧ 2 ≤ k ∧ k ≤ 1000 ∧ xs.length ≤ 1000 ∧ NewT (List.replicate k.toNat xs).flatten H Q
theorem op_repF : OpR X (binaryOp .Mult) (rRepF X.K) := fun pins s σ H x y v u Q I rx ry h => by
  obtain ⟨l, k, xs, rfl, rfl, hT, hne, k1, k2, few, q⟩ := h
  cases rx
  obtain ⟨tk, rfl⟩ := ry
  obtain ⟨items, rel, ⟨⟨c0, d0, dat, slo⟩, ho, e1, m, e2⟩, _⟩ := I.tuple hT
  dsimp only at e1 e2
  subst e1 e2
  have le := rel.length
  have pos' : 0 < items.length := by
    rw [← le]
    exact List.length_pos_iff.mpr hne
  have emp : items.toArray.isEmpty = false := by
    cases items with
    | nil => cases pos'
    | cons _ _ => rfl
  have sz : items.toArray.size = xs.length := by rw [List.size_toArray, le]
  have mul : ((items.toArray.size : Nat) : Int) * k ≤ 1000 * 1000 := by
    rw [sz]
    exact Int.mul_le_mul (by omega) k2 (by omega) (by omega)
  have all : k.toNat * xs.length ≤ 1000 * 1000 := Nat.mul_le_mul (by omega) few
  have flat : (List.replicate k.toNat items).flatten.length ≤ sizeLine := by
    rw [PyProof.Rows.lm_len_rep_flat, ← le, sizeLine_eq]
    omega
  have flat' : (List.replicate k.toNat xs).flatten.length ≤ sizeLine := by
    rw [PyProof.Rows.lm_len_rep_flat, sizeLine_eq]
    omega
  have g0 : (decide (k < -(2 ^ 63)) || decide (k ≥ 2 ^ 63)) = false := by rw [decide_eq_false (show ¬ k < -(2 ^ 63) by omega), decide_eq_false (show ¬ k ≥ 2 ^ 63 by omega)]; rfl
  have g1 : (items.toArray.isEmpty || k == 1) = false := by rw [emp, Bool.false_or]; exact beq_eq_false_iff_ne.mpr (by omega)
  have g2 : (decide (k ≤ 0) || items.toArray.isEmpty) = false := by rw [emp, Bool.or_false]; exact decide_eq_false (by omega)
  have g4 : Builtin.Tuple.tupleTooMany (((items.toArray.size : Nat) : Int) * k) = false := by unfold Builtin.Tuple.tupleTooMany; rw [sizeLine_eq]; exact decide_eq_false (by omega)
  have core : wpAny (model X.prog X.w) X.A (call (.builtin "tuple.__mul__") [.ref l, .int k tk]) (EP X pins σ Q) X.xe s := call_meets PySem.F.slot_tuple_mul ⟨_, ho, rfl⟩ PySem.F.entry_tuple_mul (PySem.F.args_tuple_mul_2 _ _) (tuple_mulW l items.toArray m d0 slo k tk g0 g1 g2 (by omega) g4 (by rw [size_rep, List.size_toArray]; exact flat)) ⟨ho, by
    rw [size_rep]
    exact laid_tup (t' := s.toks) I (rel.rep k.toNat) flat' q⟩
  exact wpAny_binaryOp_repeat_ref (T := "tuple") (U := "int") (by decide) ⟨_, ho, rfl⟩ (fun s' => typeIs_int s' k tk) noFill_tuple_mul PySem.F.fills_int_mul PySem.F.slot_int_rmul repeat_tuple PySem.F.slot_int_index.lookup
    (call_meets PySem.F.slot_int_rmul (typeIs_int s k tk) PySem.F.entry_int_rmul (PySem.F.args_int_rmul_2 _ _) (int_rmul_tuple k tk l items.toArray m d0 slo) ⟨ho, rfl, ⟨_, ho, rfl⟩, core⟩)
end
end DL
namespace DL
open PySem PySem.Spec PyProof.Rows L2

abbrev small (n : Nat) : Prop := n ≤ 100000
theorem sm_line {n : Nat} (h : small n) : n ≤ sizeLine := Nat.le_trans h (by decide)

instance (i j : Int) : Decidable (CMul i j) := by unfold CMul; infer_instance
/-! ### + -/
def rCatL (K : PySem.W.Frag) : R2 := fun x y H Q => ∃ l b xs zs, x = .ref l ∧ y = .ref b ∧ SqL K H l xs ∧ SqL K H b zs ∧ xs.length + zs.length ≤ sizeLine ∧ ∀ p, H p = none → Q (.ref p) (upd H p (.lst (xs ++ zs)))
theorem op_catL {X : Cx} : OpR X (binaryOp .Add) (rCatL X.K) := by
  intro pins s σ H x y v u Q I rx ry h
  obtain ⟨l, b, xs, zs, rfl, rfl, hH, hB, hz, q⟩ := h
  cases rx
  cases ry
  obtain ⟨its, r, ⟨⟨cls, dd, data, sl⟩, n, ho, hc, hd, hdat⟩, hz1⟩ := I.list hH
  obtain ⟨its2, r2, ⟨⟨cls2, dd2, data2, sl2⟩, n2, ho2, hc2, hd2, hdat2⟩, hz2⟩ := I.list hB
  simp only at hc hdat hc2 hdat2
  subst hc hdat hc2 hdat2
  have h1 := r.length
  have h2 := r2.length
  refine concat_meets ⟨_, ho, rfl⟩ ⟨_, ho2, rfl⟩ noFill_list_add seq_list_add PySem.F.slot_list_add PySem.F.entry_list_add (PySem.F.args_list_add_2 _ _) (list_addW l b its.toArray its2.toArray n n2 dd dd2 sl sl2 (by simp only [List.size_toArray]; omega)) ⟨ho, ho2, ?_⟩
  have ea : its.toArray ++ its2.toArray = (its ++ its2).toArray := by simp
  rw [ea]
  exact ⟨.ref _, _, I.lnew (t' := s.toks) (r.append r2) (by rw [List.length_append]; omega), rfl, q _ I.fresh⟩

def rAdd (K : PySem.W.Frag) : R2 := fun x y H Q => (rI0 (fun i j => .int (i + j)) x y H Q ∨ rCatL K x y H Q) ∨ (rCatF K x y H Q ∨ (∃ i j, x = .str i ∧ y = .str j ∧ i.length + j.length ≤ sizeLine ∧ Q (.str (i ++ j)) H))
theorem op_addD {X : Cx} : OpR X (binaryOp .Add) (rAdd X.K) := (op_add.or op_catL).or (op_catF.or op_add_str)
def gAdd : PyData → PyData → Option Res
  | .int i, .int j => some (.fz (.int (i + j)))
  | .list xs, .list ys => if small (xs.length + ys.length) then some (.nw (xs ++ ys)) else none
  | .tuple xs, .tuple ys => if small (xs.length + ys.length) then some (.fz (.tuple (xs ++ ys))) else none
  | .str x, .str y => if small (x.length + y.length) then some (.fz (.str (x ++ y))) else none
  | _, _ => none
theorem o_add {K : PySem.W.Frag} : Op2 K (rAdd K) gAdd := fun B H0 Hf H v u a b c Q e1 e2 q1 q2 hg k => by
  unfold gAdd at hg
  split at hg
  · rename_i i j h1 h2
    cases hg
    exact .inl (.inl ⟨i, j, q1.int h1, q2.int h2, k _ Hf H (Gr.refl e1) (Dp.int _)⟩)
  · rename_i xs ys h1 h2
    split at hg
    · rename_i hz
      cases hg
      obtain ⟨l, vs, rfl, s1, d1⟩ := q1.lst e1 h1
      obtain ⟨l2, ws, rfl, s2, d2⟩ := q2.lst e1 h2
      refine .inl (.inr ⟨l, l2, vs, ws, rfl, rfl, s1, s2, by rw [dpa_len d1, dpa_len d2]; exact sm_line hz, fun p hp => ?_⟩)
      exact k _ Hf _ (Gr.newU e1 hp) ⟨p, _, rfl, hp, e1.free hp, upd_same, dpa_app d1 d2⟩
    · cases hg
  · rename_i xs ys h1 h2
    split at hg
    · rename_i hz
      cases hg
      obtain ⟨l, vs, rfl, s1, d1⟩ := q1.tup h1
      obtain ⟨l2, ws, rfl, s2, d2⟩ := q2.tup h2
      refine .inr (.inl ⟨l, l2, vs, ws, rfl, rfl, sqt_mono e1 s1, sqt_mono e1 s2, by rw [dpa_len d1, dpa_len d2]; exact sm_line hz, fun z => ?_, fun z1 z2 => ?_, fun z1 z2 p ob hp hd => ?_⟩)
      · subst z
        cases d1
        exact k _ Hf H (Gr.refl e1) (Dp.tup s2 d2)
      · subst z2
        cases d2
        rw [List.append_nil] at k
        exact k _ Hf H (Gr.refl e1) (Dp.tup s1 d1)
      · exact k _ _ _ (Gr.new e1 hp (.tupF hd)) (Dp.tup (sqt_frz upd_same) (dpa_mono (same_upd (e1.free hp)) _ _ (dpa_app d1 d2)))
    · cases hg
  · rename_i x y h1 h2
    split at hg
    · rename_i hz
      cases hg
      exact .inr (.inr ⟨x, y, q1.str h1, q2.str h2, sm_line hz, k _ Hf H (Gr.refl e1) (Dp.str _)⟩)
    · cases hg
  · cases hg
section
variable {X : Cx} {a b c e : Expr} {es : List Expr} {fa fb fc : FE} {pos : Pos}
theorem d_add (ha : DE X a fa) (hb : DE X b fb) : DE X (.BinOp a .Add b pos) (f2 gAdd fa fb) := d_op op_addD o_add ha hb

/-! ### ints -/
/-- a rule of two ints -/
theorem o_int {K : PySem.W.Frag} {C : Int → Int → Prop} {h : Int → Int → Int} {g : PyData → PyData → Option Res}
    (hg : ∀ x y c, g x y = some c → ∃ i j, x = .int i ∧ y = .int j ∧ C i j ∧ c = .fz (.int (h i j))) : Op2 K (rI C fun i j => .int (h i j)) g := fun B H0 Hf H v u a b c Q e1 e2 q1 q2 z k => by
  obtain ⟨i, j, h1, h2, hc, rfl⟩ := hg _ _ _ z
  exact ⟨i, j, q1.int h1, q2.int h2, hc, k _ Hf H (Gr.refl e1) (Dp.int _)⟩
theorem o_cmp {K : PySem.W.Frag} {h : Int → Int → Bool} {g : PyData → PyData → Option Res}
    (hg : ∀ x y c, g x y = some c → ∃ i j, x = .int i ∧ y = .int j ∧ c = .fz (.bool (h i j))) : Op2 K (rI0 fun i j => .bl (h i j)) g := fun B H0 Hf H v u a b c Q e1 e2 q1 q2 z k => by
  obtain ⟨i, j, h1, h2, rfl⟩ := hg _ _ _ z
  exact ⟨i, j, q1.int h1, q2.int h2, k _ Hf H (Gr.refl e1) (Dp.bl _)⟩
def gMinus : PyData → PyData → Option Res
  | .int i, .int j => some (.fz (.int (i - j)))
  | _, _ => none
theorem o_sub {K : PySem.W.Frag} : Op2 K (rI0 fun i j => .int (i - j)) gMinus := fun B H0 Hf H v u a b c Q e1 e2 q1 q2 hg k => by
  unfold gMinus at hg
  split at hg
  · rename_i i j h1 h2
    cases hg
    exact ⟨i, j, q1.int h1, q2.int h2, k _ Hf H (Gr.refl e1) (Dp.int _)⟩
  · cases hg
theorem d_sub (ha : DE X a fa) (hb : DE X b fb) : DE X (.BinOp a .Sub b pos) (f2 gMinus fa fb) := d_op op_sub o_sub ha hb
def gDiv : PyData → PyData → Option Res
  | .int i, .int j => if 0 < j ∧ j < 2 ^ 200 then some (.fz (.int (i / j))) else none
  | _, _ => none
theorem d_div (ha : DE X a fa) (hb : DE X b fb) : DE X (.BinOp a .FloorDiv b pos) (f2 gDiv fa fb) := d_op op_fdivW (o_int fun x y c h => by
  unfold gDiv at h
  split at h
  · rename_i i j
    split at h
    · rename_i z
      cases h
      exact ⟨i, j, rfl, rfl, wide_div (b := 200) z.1 (by have := z.2; omega) (by decide) (by decide), rfl⟩
    · cases h
  · cases h) ha hb
def gMod : PyData → PyData → Option Res
  | .int i, .int j => if 0 < j then some (.fz (.int (i % j))) else none
  | _, _ => none
theorem d_mod (ha : DE X a fa) (hb : DE X b fb) : DE X (.BinOp a .Mod b pos) (f2 gMod fa fb) := d_op op_mod (o_int fun x y c h => by
  unfold gMod at h
  split at h
  · rename_i i j
    split at h
    · rename_i z
      cases h
      exact ⟨i, j, rfl, rfl, z, rfl⟩
    · cases h
  · cases h) ha hb
def gPow : PyData → PyData → Option Res
  | .int i, .int j => if 0 ≤ j ∧ j ≤ 1000000 ∧ i.natAbs < 2 ^ 64 then some (.fz (.int (i ^ j.toNat))) else none
  | _, _ => none
theorem d_pow (ha : DE X a fa) (hb : DE X b fb) : DE X (.BinOp a .Pow b pos) (f2 gPow fa fb) := d_op op_pow (o_int fun x y c h => by
  unfold gPow at h
  split at h
  · rename_i i j
    split at h
    · rename_i z
      cases h
      exact ⟨i, j, rfl, rfl, z, rfl⟩
    · cases h
  · cases h) ha hb
/-- * : ints (one factor below 2 ^ 64), list * int, tuple * int -/
def rMul (K : PySem.W.Frag) : R2 := fun x y H Q => rI CMul (fun i j => .int (i * j)) x y H Q ∨ rRepF K x y H Q
theorem op_mulD {X : Cx} : OpR X (binaryOp .Mult) (rMul X.K) := op_mul.or op_repF
def gMul : PyData → PyData → Option Res
  | .int i, .int j => if CMul i j then some (.fz (.int (i * j))) else none
  | .tuple xs, .int k => if xs ≠ [] ∧ 2 ≤ k ∧ k ≤ 1000 ∧ xs.length ≤ 1000 then some (.fz (.tuple (List.replicate k.toNat xs).flatten)) else none
  | _, _ => none
theorem dpa_rep {K : PySem.W.Frag} {H : Hp} {vs : List V} {ds : List PyData} (h : DpAll K H vs ds) : ∀ n : Nat, DpAll K H (List.replicate n vs).flatten (List.replicate n ds).flatten
  | 0 => .nil
  | n + 1 => by
    rw [List.replicate_succ, List.replicate_succ, List.flatten_cons, List.flatten_cons]
    exact dpa_app h (dpa_rep h n)
theorem o_mul {K : PySem.W.Frag} : Op2 K (rMul K) gMul := fun B H0 Hf H v u a b c Q e1 e2 q1 q2 hg k => by
  unfold gMul at hg
  split at hg
  · rename_i i j h1 h2
    split at hg
    · rename_i z
      cases hg
      exact .inl ⟨i, j, q1.int h1, q2.int h2, z, k _ Hf H (Gr.refl e1) (Dp.int _)⟩
    · cases hg
  · rename_i xs n h1 h2
    split at hg
    · rename_i z
      cases hg
      obtain ⟨l, vs, rfl, s1, d1⟩ := q1.tup h1
      have hl := dpa_len d1
      refine .inr ⟨l, n, vs, rfl, q2.int h2, sqt_mono e1 s1, fun w => z.1 ?_, z.2.1, z.2.2.1, by rw [hl]; exact z.2.2.2, fun p ob hp hd => ?_⟩
      · subst w; cases d1; rfl
      · exact k _ _ _ (Gr.new e1 hp (.tupF hd)) (Dp.tup (sqt_frz upd_same) (dpa_mono (same_upd (e1.free hp)) _ _ (dpa_rep d1 _)))
    · cases hg
  · cases hg
theorem d_mul (ha : DE X a fa) (hb : DE X b fb) : DE X (.BinOp a .Mult b pos) (f2 gMul fa fb) := d_op op_mulD o_mul ha hb

/-! ### comparisons -/
def gLt : PyData → PyData → Option Res
  | .int i, .int j => some (.fz (.bool (decide (i < j))))
  | _, _ => none
def gLe : PyData → PyData → Option Res
  | .int i, .int j => some (.fz (.bool (decide (i ≤ j))))
  | _, _ => none
def gGt : PyData → PyData → Option Res
  | .int i, .int j => some (.fz (.bool (decide (j < i))))
  | _, _ => none
def gGe : PyData → PyData → Option Res
  | .int i, .int j => some (.fz (.bool (decide (j ≤ i))))
  | _, _ => none
theorem o_lt {K : PySem.W.Frag} : Op2 K (rI0 fun i j => .bl (decide (i < j))) gLt := o_cmp fun x y c h => by
  unfold gLt at h; split at h
  · cases h; exact ⟨_, _, rfl, rfl, rfl⟩
  · cases h
theorem o_le {K : PySem.W.Frag} : Op2 K (rI0 fun i j => .bl (decide (i ≤ j))) gLe := o_cmp fun x y c h => by
  unfold gLe at h; split at h
  · cases h; exact ⟨_, _, rfl, rfl, rfl⟩
  · cases h
theorem o_gt {K : PySem.W.Frag} : Op2 K (rI0 fun i j => .bl (decide (j < i))) gGt := o_cmp fun x y c h => by
  unfold gGt at h; split at h
  · cases h; exact ⟨_, _, rfl, rfl, rfl⟩
  · cases h
theorem o_ge {K : PySem.W.Frag} : Op2 K (rI0 fun i j => .bl (decide (j ≤ i))) gGe := o_cmp fun x y c h => by
  unfold gGe at h; split at h
  · cases h; exact ⟨_, _, rfl, rfl, rfl⟩
  · cases h
def gEq : PyData → PyData → Option Res := fun a b => if SeqAt.shaped a = true ∧ SeqAt.shaped b = true then some (.fz (.bool (PyData.eqv a b))) else none
def gNe : PyData → PyData → Option Res := fun a b => if SeqAt.shaped a = true ∧ SeqAt.shaped b = true then some (.fz (.bool (!PyData.eqv a b))) else none
theorem o_eq {K : PySem.W.Frag} : Op2 K (rEqD K) gEq := fun B H0 Hf H v u a b c Q e1 e2 q1 q2 hg k => by
  unfold gEq at hg
  split at hg
  · rename_i z
    cases hg
    exact ⟨_, _, q1.dp e1, q2.dp e1, z.1, z.2, k _ Hf H (Gr.refl e1) (Dp.bl _)⟩
  · cases hg
theorem o_ne {K : PySem.W.Frag} : Op2 K (rNeD K) gNe := fun B H0 Hf H v u a b c Q e1 e2 q1 q2 hg k => by
  unfold gNe at hg
  split at hg
  · rename_i z
    cases hg
    exact ⟨_, _, q1.dp e1, q2.dp e1, z.1, z.2, k _ Hf H (Gr.refl e1) (Dp.bl _)⟩
  · cases hg
/-- is, is not: None on the right, or two bools -/
def rIs : R2 := fun x y H Q => (y = .non ∧ Q (.bl (decide (x = .non))) H) ∨ rIsB x y H Q
def rIsNot : R2 := fun x y H Q => (y = .non ∧ Q (.bl (!decide (x = .non))) H) ∨ rNotB x y H Q
theorem op_isD : OpR X (compareOp .Is) rIs := op_isN.or op_isBl
theorem op_isnotD : OpR X (compareOp .IsNot) rIsNot := op_notN.or op_notBl
def isNone : PyData → Bool
  | .none => true
  | _ => false
def gIs : PyData → PyData → Option Res
  | a, .none => some (.fz (.bool (isNone a)))
  | .bool a, .bool b => some (.fz (.bool (decide (a = b))))
  | _, _ => none
def gIsNot : PyData → PyData → Option Res
  | a, .none => some (.fz (.bool (!isNone a)))
  | .bool a, .bool b => some (.fz (.bool (!decide (a = b))))
  | _, _ => none
theorem isNone_of {K : PySem.W.Frag} {H : Hp} {v : V} {d : PyData} (h : Dp K H v d) : decide (v = .non) = isNone d := by
  cases h <;> rfl
theorem o_is {K : PySem.W.Frag} : Op2 K rIs gIs := fun B H0 Hf H v u a b c Q e1 e2 q1 q2 hg k => by
  unfold gIs at hg
  split at hg
  · rename_i h2
    cases hg
    refine .inl ⟨q2.non h2, ?_⟩
    rw [isNone_of (q1.dp e1)]
    exact k _ Hf H (Gr.refl e1) (Dp.bl _)
  · rename_i x y h1 h2
    cases hg
    exact .inr ⟨x, y, q1.bl h1, q2.bl h2, k _ Hf H (Gr.refl e1) (Dp.bl _)⟩
  · cases hg
theorem o_isnot {K : PySem.W.Frag} : Op2 K rIsNot gIsNot := fun B H0 Hf H v u a b c Q e1 e2 q1 q2 hg k => by
  unfold gIsNot at hg
  split at hg
  · rename_i h2
    cases hg
    refine .inl ⟨q2.non h2, ?_⟩
    rw [isNone_of (q1.dp e1)]
    exact k _ Hf H (Gr.refl e1) (Dp.bl _)
  · rename_i x y h1 h2
    cases hg
    exact .inr ⟨x, y, q1.bl h1, q2.bl h2, k _ Hf H (Gr.refl e1) (Dp.bl _)⟩
  · cases hg
/-- in, not in: of a list or tuple of flat items -/
def flatD : PyData → Bool
  | .none => true
  | .bool _ => true
  | .int _ => true
  | .str _ => true
  | _ => false
def inD (x : PyData) (xs : List PyData) : Bool := xs.any fun y => PyData.eqv y x
theorem flat_of {K : PySem.W.Frag} {H : Hp} {v : V} {d : PyData} (h : Dp K H v d) (f : flatD d = true) : flatV v = true := by
  cases h <;> first | rfl | exact absurd (show false = true from f) Bool.false_ne_true
theorem flats_of {K : PySem.W.Frag} {H : Hp} : ∀ {vs : List V} {ds : List PyData}, DpAll K H vs ds → ds.all flatD = true → vs.all flatV = true
  | _, _, .nil, _ => rfl
  | _, _, .cons a t, f => by
    rw [List.all_cons, Bool.and_eq_true] at f ⊢
    exact ⟨flat_of a f.1, flats_of t f.2⟩
theorem eqV_of {K : PySem.W.Frag} {H : Hp} {v u : V} {d e : PyData} (h : Dp K H v d) (h' : Dp K H u e) (f : flatD d = true) (f' : flatD e = true) : eqV v u = PyData.eqv d e := by
  cases h <;> cases h' <;> first
    | rfl
    | exact absurd (show false = true from f) Bool.false_ne_true
    | exact absurd (show false = true from f') Bool.false_ne_true
    | (rename_i a b; cases a <;> rfl)
    | (rename_i a b; cases b <;> rfl)
    | (rename_i a b; cases a <;> cases b <;> rfl)
theorem inV_of {K : PySem.W.Frag} {H : Hp} {v : V} {d : PyData} (h : Dp K H v d) (f : flatD d = true) : ∀ {vs : List V} {ds : List PyData}, DpAll K H vs ds → ds.all flatD = true → inV v vs = inD d ds
  | _, _, .nil, _ => rfl
  | _, _, .cons a t, g => by
    rw [List.all_cons, Bool.and_eq_true] at g
    unfold inV inD
    rw [List.any_cons, List.any_cons, eqV_of a h g.1 f]
    have q := inV_of h f t g.2
    unfold inV inD at q
    rw [q]
def gIn (neg : Bool) : PyData → PyData → Option Res
  | x, .list ys => if flatD x = true ∧ ys.all flatD = true then some (.fz (.bool (if neg then !inD x ys else inD x ys))) else none
  | x, .tuple ys => if flatD x = true ∧ ys.all flatD = true then some (.fz (.bool (if neg then !inD x ys else inD x ys))) else none
  | _, _ => none
theorem o_in {K : PySem.W.Frag} {neg : Bool} : Op2 K (rIn K neg) (gIn neg) := fun B H0 Hf H v u a b c Q e1 e2 q1 q2 hg k => by
  unfold gIn at hg
  have d1 := q1.dp e1
  split at hg
  · rename_i ys h2
    split at hg
    · rename_i z
      cases hg
      obtain ⟨p, vs, rfl, s2, d2⟩ := q2.lst e1 h2
      refine ⟨p, vs, rfl, .inl s2, flat_of d1 z.1, flats_of d2 z.2, ?_⟩
      rw [inV_of d1 z.1 (dpa_mono e1 _ _ d2) z.2]
      exact k _ Hf H (Gr.refl e1) (Dp.bl _)
    · cases hg
  · rename_i ys h2
    split at hg
    · rename_i z
      cases hg
      obtain ⟨p, vs, rfl, s2, d2⟩ := q2.tup h2
      refine ⟨p, vs, rfl, .inr (sqt_mono e1 s2), flat_of d1 z.1, flats_of d2 z.2, ?_⟩
      rw [inV_of d1 z.1 (dpa_mono e1 _ _ d2) z.2]
      exact k _ Hf H (Gr.refl e1) (Dp.bl _)
    · cases hg
  · cases hg

/-! ### one operand -/
def Op1 (K : PySem.W.Frag) (r : V → Hp → VK → Prop) (g : PyData → Option Res) : Prop :=
  ∀ (B H0 Hf H : Hp) (v : V) (a c : Res) (Q : VK), Same Hf H → Same H0 H → RR K B H0 Hf H v a → g a.rd = some c → (∀ w Hf' H', Gr Hf H Hf' H' → RR K B H Hf' H' w c → Q w H') → r v H Q
def f1 (g : PyData → Option Res) (fa : FE) : FE := fun ρ => (fa ρ).bind fun a => g a.rd
theorem ent1 {K : PySem.W.Frag} {r : V → Hp → VK → Prop} {g : PyData → Option Res} (o : Op1 K r g) : ∀ σ H Q, tD K (f1 g fa) σ H Q → tUn r (tD K fa) σ H Q := fun σ H Q h => by
  obtain ⟨B, Hf, ρ, c, er, hf, k⟩ := h
  unfold f1 at hf
  obtain ⟨ra, h1, hf⟩ := Option.bind_eq_some_iff.mp hf
  exact ⟨B, Hf, ρ, ra, er, h1, fun v Hf1 H1 g1 q1 => o B H Hf1 H1 v ra c Q g1.fh g1.h q1 hf fun w Hf3 H3 g3 q3 => k w Hf3 H3 (g1.trans g3) (q3.back g1.h)⟩
def gNeg : PyData → Option Res
  | .int i => some (.fz (.int (-i)))
  | _ => none
theorem o_neg {K : PySem.W.Frag} : Op1 K (rU fun i => .int (-i)) gNeg := fun B H0 Hf H v a c Q e1 e2 q1 hg k => by
  unfold gNeg at hg
  split at hg
  · rename_i i h1
    cases hg
    exact ⟨i, q1.int h1, k _ Hf H (Gr.refl e1) (Dp.int _)⟩
  · cases hg
theorem d_neg (ha : DE X a fa) : DE X (.UnaryOp .USub a pos) (f1 gNeg fa) := pe_mono (pe_un un_neg ha) (ent1 o_neg)

/-! ### truth -/
def tru : PyData → Option Bool
  | .none => some false
  | .bool b => some b
  | .int i => some (i != 0)
  | .str x => if small x.length then some ((x.length : Int) != 0) else none
  | .list xs => some (!xs.isEmpty)
  | .tuple xs => some (!xs.isEmpty)
  | .dict _ => none
theorem emp_of {K : PySem.W.Frag} {H : Hp} {vs : List V} {ds : List PyData} (h : DpAll K H vs ds) : ds.isEmpty = vs.isEmpty := by
  cases h <;> rfl
theorem tru_of {K : PySem.W.Frag} {H : Hp} {v : V} {d : PyData} {b : Bool} (h : Dp K H v d) (t : tru d = some b) : TruV K v H b := by
  cases h with
  | non => cases t; rfl
  | bl x => cases t; rfl
  | int i => cases t; rfl
  | str x =>
    unfold tru at t
    simp only at t
    split at t
    · rename_i z; cases t; exact ⟨sm_line z, rfl⟩
    · cases t
  | lst hs ha =>
    cases t
    exact .inl ⟨_, hs, by rw [emp_of ha]⟩
  | tup hs ha =>
    cases t
    exact .inr (.inl ⟨_, hs, by rw [emp_of ha]⟩)
/-- any expression's truth, as a test -/
def fTru (f : FE) : Rho → Option Bool := fun ρ => (f ρ).bind fun r => tru r.rd
theorem t_tru (ha : DE X a fa) (he : ∀ whole, isTrue a X.env whole = (do let v ← whole; standAt a.pos; holding [v] (truthy v)) := by intro _; rfl) : DT X a (fTru fa) := pt_mono (pt_truth ha he) fun σ H Q h => by
  obtain ⟨B, Hf, ρ, c, er, hf, k⟩ := h
  obtain ⟨r, h1, h2⟩ := Option.bind_eq_some_iff.mp hf
  exact ⟨B, Hf, ρ, r, er, h1, fun v Hf' H' g' q => ⟨c, tru_of (q.dp g'.fh) h2, k Hf' H' g'⟩⟩
def tNotF (f : Rho → Option Bool) : Rho → Option Bool := fun ρ => (f ρ).map (!·)
theorem t_not {t : Rho → Option Bool} (ha : DT X a t) : DT X (.UnaryOp .Not a pos) (tNotF t) := pt_mono (pt_not ha) fun σ H Q h => by
  obtain ⟨B, Hf, ρ, c, er, hf, k⟩ := h
  unfold tNotF at hf
  obtain ⟨b, h1, h2⟩ := Option.map_eq_some_iff.mp hf
  subst h2
  exact ⟨B, Hf, ρ, b, er, h1, k⟩
abbrev DW (X : Cx) (e : Expr) (f : Rho → Option Bool) : Prop := PW X e (tDT X.K f)
theorem pw_mono {X : Cx} {e : Expr} {t t' : TT} (h : PW X e t) (k : ∀ σ H Q, t' σ H Q → t σ H Q) : PW X e t' := ⟨fun whole pins s σ H Q I q => h.run whole pins s σ H Q I (k _ _ _ q)⟩
def tAndF (f g : Rho → Option Bool) : Rho → Option Bool := fun ρ => (f ρ).bind fun a => if a = true then g ρ else some false
def tOrF (f g : Rho → Option Bool) : Rho → Option Bool := fun ρ => (f ρ).bind fun a => if a = true then some true else g ρ
variable {t u : Rho → Option Bool} {rest : List Expr}
theorem w_and1 (ha : DT X a t) : DW X (.BoolOp .And [a] pos) t := pw_and1 ha
theorem w_or1 (ha : DT X a t) : DW X (.BoolOp .Or [a] pos) t := pw_or1 ha
theorem w_and (ha : DT X a t) (hb : DW X (.BoolOp .And (b :: rest) pos) u) : DW X (.BoolOp .And (a :: b :: rest) pos) (tAndF t u) := pw_mono (pw_and ha hb) fun σ H Q h => by
  obtain ⟨B, Hf, ρ, c, er, hf, k⟩ := h
  unfold tAndF at hf
  obtain ⟨x, h1, h2⟩ := Option.bind_eq_some_iff.mp hf
  refine ⟨B, Hf, ρ, x, er, h1, fun Hf' H' g' => ?_⟩
  cases x with
  | true => exact ⟨B, Hf', ρ, c, er.grow g', h2, fun Hf2 H2 g2 => k _ _ (g'.trans g2)⟩
  | false => cases h2; exact k _ _ g'
theorem w_or (ha : DT X a t) (hb : DW X (.BoolOp .Or (b :: rest) pos) u) : DW X (.BoolOp .Or (a :: b :: rest) pos) (tOrF t u) := pw_mono (pw_or ha hb) fun σ H Q h => by
  obtain ⟨B, Hf, ρ, c, er, hf, k⟩ := h
  unfold tOrF at hf
  obtain ⟨x, h1, h2⟩ := Option.bind_eq_some_iff.mp hf
  refine ⟨B, Hf, ρ, x, er, h1, fun Hf' H' g' => ?_⟩
  cases x with
  | true => cases h2; exact k _ _ g'
  | false => exact ⟨B, Hf', ρ, c, er.grow g', h2, fun Hf2 H2 g2 => k _ _ (g'.trans g2)⟩
theorem t_bool (h : DW X a t) : DT X a t := h.pt
/-- and, or, not as values -/
def fAnd (fa fb : FE) : FE := fun ρ => (fa ρ).bind fun a => (tru a.rd).bind fun k => if k = true then fb ρ else some a
def fOr (fa fb : FE) : FE := fun ρ => (fa ρ).bind fun a => (tru a.rd).bind fun k => if k = true then some a else fb ρ
theorem d_one {op} (h : DE X a fa) : DE X (.BoolOp op [a] pos) fa := pe_one h
theorem d_and (ha : DE X a fa) (hb : DE X (.BoolOp .And (b :: rest) pos) fb) : DE X (.BoolOp .And (a :: b :: rest) pos) (fAnd fa fb) := pe_mono (pe_andT ha hb) fun σ H Q h => by
  obtain ⟨B, Hf, ρ, c, er, hf, k⟩ := h
  unfold fAnd at hf
  obtain ⟨x, h1, h2⟩ := Option.bind_eq_some_iff.mp hf
  obtain ⟨y, h3, h4⟩ := Option.bind_eq_some_iff.mp h2
  refine ⟨B, Hf, ρ, x, er, h1, fun v Hf' H' g' q => ⟨y, tru_of (q.dp g'.fh) h3, ?_⟩⟩
  cases y with
  | true => exact ⟨B, Hf', ρ, c, er.grow g', h4, fun w Hf2 H2 g2 q2 => k _ _ _ (g'.trans g2) (q2.back g'.h)⟩
  | false => cases h4; exact k _ _ _ g' q
theorem d_or (ha : DE X a fa) (hb : DE X (.BoolOp .Or (b :: rest) pos) fb) : DE X (.BoolOp .Or (a :: b :: rest) pos) (fOr fa fb) := pe_mono (pe_orT ha hb) fun σ H Q h => by
  obtain ⟨B, Hf, ρ, c, er, hf, k⟩ := h
  unfold fOr at hf
  obtain ⟨x, h1, h2⟩ := Option.bind_eq_some_iff.mp hf
  obtain ⟨y, h3, h4⟩ := Option.bind_eq_some_iff.mp h2
  refine ⟨B, Hf, ρ, x, er, h1, fun v Hf' H' g' q => ⟨y, tru_of (q.dp g'.fh) h3, ?_⟩⟩
  cases y with
  | true => cases h4; exact k _ _ _ g' q
  | false => exact ⟨B, Hf', ρ, c, er.grow g', h4, fun w Hf2 H2 g2 q2 => k _ _ _ (g'.trans g2) (q2.back g'.h)⟩
def fNot (fa : FE) : FE := fun ρ => (fa ρ).bind fun a => (tru a.rd).map fun k => .fz (.bool (!k))
theorem d_not (ha : DE X a fa) : DE X (.UnaryOp .Not a pos) (fNot fa) := pe_mono (pe_notT ha) fun σ H Q h => by
  obtain ⟨B, Hf, ρ, c, er, hf, k⟩ := h
  unfold fNot at hf
  obtain ⟨x, h1, h2⟩ := Option.bind_eq_some_iff.mp hf
  obtain ⟨y, h3, h4⟩ := Option.map_eq_some_iff.mp h2
  subst h4
  exact ⟨B, Hf, ρ, x, er, h1, fun v Hf' H' g' q => ⟨y, tru_of (q.dp g'.fh) h3, k _ _ _ g' (Dp.bl _)⟩⟩
def fIf (t : Rho → Option Bool) (fa fb : FE) : FE := fun ρ => (t ρ).bind fun k => if k = true then fa ρ else fb ρ
theorem d_if (hc : DT X c t) (ha : DE X a fa) (hb : DE X b fb) : DE X (.IfExp c a b pos) (fIf t fa fb) := pe_mono (pe_ifExp hc ha hb) fun σ H Q h => by
  obtain ⟨B, Hf, ρ, r, er, hf, k⟩ := h
  unfold fIf at hf
  obtain ⟨y, h3, h4⟩ := Option.bind_eq_some_iff.mp hf
  refine ⟨B, Hf, ρ, y, er, h3, fun Hf' H' g' => ?_⟩
  cases y with
  | true => exact ⟨B, Hf', ρ, r, er.grow g', h4, fun w Hf2 H2 g2 q2 => k _ _ _ (g'.trans g2) (q2.back g'.h)⟩
  | false => exact ⟨B, Hf', ρ, r, er.grow g', h4, fun w Hf2 H2 g2 q2 => k _ _ _ (g'.trans g2) (q2.back g'.h)⟩

/-! ### argument lists, displays -/
def aNil : FA := fun _ => some []
def aCons (f : FE) (g : FA) : FA := fun ρ => (f ρ).bind fun r => (g ρ).map fun rs => r :: rs
theorem RRs.grow {K : PySem.W.Frag} {B H0 Hf H Hf' H' : Hp} (g : Gr Hf H Hf' H') : ∀ {vs : List V} {rs : List Res}, RRs K B H0 Hf H vs rs → RRs K B H0 Hf' H' vs rs
  | _, _, .nil => .nil
  | _, _, .cons a t => .cons (a.grow g) (RRs.grow g t)
theorem RRs.back {K : PySem.W.Frag} {B H0 H1 Hf H : Hp} (s : Same H0 H1) : ∀ {vs : List V} {rs : List Res}, RRs K B H1 Hf H vs rs → RRs K B H0 Hf H vs rs
  | _, _, .nil => .nil
  | _, _, .cons a t => .cons (a.back s) (RRs.back s t)
theorem a_nil : DA X [] aNil := pa_mono pa_nil fun σ H Q h => by
  obtain ⟨B, Hf, ρ, r, er, hf, k⟩ := h
  cases hf
  exact k _ _ _ (Gr.refl er.fh) .nil
variable {fs : FA}
theorem a_cons (ha : DE X e fa) (hr : DA X es fs) (hs : starEach (e :: es) X.env = (false, eval e X.env) :: starEach es X.env := by rfl) : DA X (e :: es) (aCons fa fs) := pa_mono (pa_cons ha hr hs) fun σ H Q h => by
  obtain ⟨B, Hf, ρ, r, er, hf, k⟩ := h
  unfold aCons at hf
  obtain ⟨x, h1, h2⟩ := Option.bind_eq_some_iff.mp hf
  obtain ⟨y, h3, h4⟩ := Option.map_eq_some_iff.mp h2
  subst h4
  exact ⟨B, Hf, ρ, x, er, h1, fun v Hf' H' g' q => ⟨B, Hf', ρ, y, er.grow g', h3, fun vs Hf2 H2 g2 q2 => k _ _ _ (g'.trans g2) (.cons (q.grow g2) (q2.back g'.h))⟩⟩
/-- all made to stand still -/
def frs : List Res → Option (List PyData)
  | [] => some []
  | r :: rs => r.fr.bind fun x => (frs rs).map fun xs => x :: xs
theorem RRs.freeze {K : PySem.W.Frag} {B Hf H : Hp} {σ : L2.St} {ρ : Rho} (er : ER K B Hf H σ ρ) : ∀ {rs : List Res} {vs : List V} {xs : List PyData} {Hf' H' : Hp}, Gr Hf H Hf' H' → RRs K B H Hf' H' vs rs → frs rs = some xs → ∃ Hf2, Gr Hf H Hf2 H' ∧ Same Hf' Hf2 ∧ DpAll K Hf2 vs xs
  | [], _, _, Hf', H', g, .nil, h => by cases h; exact ⟨Hf', g, Same.refl _, .nil⟩
  | r :: rs, v :: vs, xs, Hf', H', g, .cons a t, h => by
    unfold frs at h
    obtain ⟨x, h1, h2⟩ := Option.bind_eq_some_iff.mp h
    obtain ⟨ys, h3, h4⟩ := Option.map_eq_some_iff.mp h2
    subst h4
    obtain ⟨Hf2, g2, s2, d2⟩ := RRs.freeze er g t h3
    cases r with
    | fz y => cases h1; exact ⟨Hf2, g2, s2, .cons (dp_mono s2 _ _ a) d2⟩
    | br y => cases h1
    | nw ys =>
      obtain ⟨p, ws, rfl, h0, n3, h5, h6⟩ := a
      cases h1
      by_cases z : Hf2 p = none
      · refine ⟨upd Hf2 p (.lst ws), ⟨g2.f.trans (same_upd z), g2.h, fun b o e => ?_, fun b o e n => ?_, fun b => (g2.bn b).upd .lst⟩, s2.trans (same_upd z), .cons (.lst (SqL.of upd_same) (dpa_mono (s2.trans (same_upd z)) _ _ h6)) (dpa_mono (same_upd z) _ _ d2)⟩
        · by_cases w : b = p
          · subst w; rw [upd_same] at e; cases e; exact h5
          · rw [upd_ne w] at e; exact g2.fh _ _ e
        · rw [upd_ne (ne_of_none e h0)]; exact g2.un b o e n
      · cases w : Hf2 p with
        | none => exact absurd w z
        | some o =>
          have e := g2.fh p o w
          rw [h5] at e
          cases e
          exact ⟨Hf2, g2, s2, .cons (.lst (SqL.of w) (dpa_mono s2 _ _ h6)) d2⟩
def fTup (fs : FA) : FE := fun ρ => (fs ρ).bind fun rs => (frs rs).bind fun xs => if small xs.length then some (.fz (.tuple xs)) else none
def fLst (fs : FA) : FE := fun ρ => (fs ρ).bind fun rs => (frs rs).bind fun xs => if small xs.length then some (.nw xs) else none
theorem d_tup {k} (h : DA X es fs) : DE X (.Tuple es k pos) (fTup fs) := pe_mono (pe_tupF h) fun σ H Q h => by
  obtain ⟨B, Hf, ρ, r, er, hf, k⟩ := h
  unfold fTup at hf
  obtain ⟨rs, h1, h2⟩ := Option.bind_eq_some_iff.mp hf
  obtain ⟨xs, h3, h4⟩ := Option.bind_eq_some_iff.mp h2
  split at h4
  · rename_i hz
    cases h4
    refine ⟨B, Hf, ρ, rs, er, h1, fun vs Hf' H' g' q => ?_⟩
    obtain ⟨Hf2, g2, s2, d2⟩ := RRs.freeze er g' q h3
    refine ⟨by rw [dpa_len d2]; exact sm_line hz, fun p ob hp hd => ?_⟩
    have gn : Gr Hf2 H' (upd Hf2 p (.frz ob (.tup vs))) (upd H' p (.frz ob (.tup vs))) := Gr.new g2.fh hp (.tupF hd)
    exact k _ _ _ (g2.trans gn) (Dp.tup (sqt_frz upd_same) (dpa_mono gn.f _ _ d2))
  · cases h4
theorem d_lst (h : DA X es fs) : DE X (.List es pos) (fLst fs) := pe_mono (pe_lst h) fun σ H Q h => by
  obtain ⟨B, Hf, ρ, r, er, hf, k⟩ := h
  unfold fLst at hf
  obtain ⟨rs, h1, h2⟩ := Option.bind_eq_some_iff.mp hf
  obtain ⟨xs, h3, h4⟩ := Option.bind_eq_some_iff.mp h2
  split at h4
  · rename_i hz
    cases h4
    refine ⟨B, Hf, ρ, rs, er, h1, fun vs Hf' H' g' q => ?_⟩
    obtain ⟨Hf2, g2, s2, d2⟩ := RRs.freeze er g' q h3
    refine ⟨by rw [dpa_len d2]; exact sm_line hz, fun p hp => ?_⟩
    have gn : Gr Hf2 H' Hf2 (upd H' p (.lst vs)) := Gr.newU g2.fh hp
    exact k _ _ _ (g2.trans gn) ⟨p, vs, rfl, g2.h.free hp, g2.fh.free hp, upd_same, d2⟩
  · cases h4
end
end DL
/-! t[::-1] -/
namespace DL
open PySem PySem.Spec PyProof.Rows L2 HT
section
variable {prog : Program} {w : World} {A : Around} {E : Value → Shared → Prop} {s : Shared}
theorem sliceApplied_rev {sl : Addr} {vl vu vs : Value} {n : Nat} {Q : Int × Int × Nat → Shared → Prop} (hs : s.heap.IsSliceOf sl vl vu vs) (pl : IsPart vl none) (pu : IsPart vu none) (ps : IsPart vs (some (-1)))
    (h : Q ((n : Int) - 1, -1, n) s) : wpAny (model prog w) A (Builtin.Slice.sliceApplied (.ref sl) (pure (n : Int))) Q E s := by
  obtain ⟨os, hos, hcs, hds⟩ := id hs
  unfold Builtin.Slice.sliceApplied Builtin.Slice.sliceFields
  refine wpAny_bind (wpAny_bind (wpAny_field hos hds (x := vl) rfl (wpAny_bind (wpAny_field hos hds (x := vu) rfl (wpAny_bind (wpAny_field hos hds (x := vs) rfl (wpAny_pure ?_)))))))
  refine wpAny_bind (slicePart_ ps ?_)
  show wpAny _ _ (if ((-1 : Int) == 0) = true then _ else _) _ _ s
  rw [if_neg (by decide)]
  refine wpAny_bind (slicePart_ pl (wpAny_bind (slicePart_ pu (wpAny_bind (wpAny_pure ?_)))))
  show wpAny _ _ (match Builtin.Slice.sliceAdjust none none (-1) (n : Int) with | (lo, hi) => pure (lo, (-1 : Int), Builtin.Slice.slicePlaces lo hi (-1))) _ _ s
  have e : Builtin.Slice.sliceAdjust none none (-1) (n : Int) = ((n : Int) - 1, -1) := by
    unfold Builtin.Slice.sliceAdjust
    simp
  rw [e]
  have e2 : Builtin.Slice.slicePlaces ((n : Int) - 1) (-1) (-1) = n := by
    unfold Builtin.Slice.slicePlaces
    have h1 : ¬ ((-1 : Int) > 0) := by omega
    simp only [h1, if_false, Int.neg_neg, Int.ediv_one]
    split <;> omega
  show wpAny _ _ (pure ((n : Int) - 1, (-1 : Int), Builtin.Slice.slicePlaces ((n : Int) - 1) (-1) (-1))) _ _ s
  rw [e2]
  exact wpAny_pure h
theorem fmap_congr {α β : Type} {f g : α → Option β} : ∀ {l : List α}, (∀ m ∈ l, f m = g m) → l.filterMap f = l.filterMap g
  | [], _ => rfl
  | a :: t, h => by
    rw [List.filterMap_cons, List.filterMap_cons, h a List.mem_cons_self, fmap_congr fun m hm => h m (List.mem_cons_of_mem _ hm)]
theorem pick_rev (xs : Array Value) : ((List.range xs.size).filterMap fun (m : Nat) => xs[(((xs.size : Nat) : Int) - 1 + (m : Int) * (-1)).toNat]?).toArray = xs.toList.reverse.toArray := by
  congr 1
  have key : ∀ m ∈ List.range xs.size, xs[(((xs.size : Nat) : Int) - 1 + (m : Int) * (-1)).toNat]? = (fun m => xs.toList.reverse[m]?) m := fun m hm => by
    have hm' : m < xs.size := List.mem_range.mp hm
    have e : (((xs.size : Nat) : Int) - 1 + (m : Int) * (-1)).toNat = xs.size - 1 - m := by omega
    rw [e]
    show _ = xs.toList.reverse[m]?
    rw [List.getElem?_reverse (by simpa using hm'), Array.length_toList, Array.getElem?_toList]
  rw [fmap_congr key]
  have := pick_run xs.toList.reverse.toArray 0 xs.size
  simp only [Nat.zero_add] at this
  have e3 : List.filterMap (fun m => xs.toList.reverse[m]?) (List.range xs.size) = xs.toList.reverse := by
    have hl : xs.size = xs.toList.reverse.length := by simp
    rw [hl]
    generalize xs.toList.reverse = l
    induction l with
    | nil => rfl
    | cons a t ih =>
      rw [List.length_cons, List.range_succ_eq_map, List.filterMap_cons]
      simp only [List.getElem?_cons_zero, List.filterMap_map]
      congr 1
  exact e3
theorem getItem_tuple_rev {t sl : Addr} {items : Array Value} {vl vu vs : Value} {Q : Value → Shared → Prop} (ht : IsTup s.heap t items) (hs : s.heap.IsSliceOf sl vl vu vs) (pl : IsPart vl none) (pu : IsPart vu none) (ps : IsPart vs (some (-1)))
    (h : Q (.ref s.heap.objs.size) { s with heap := s.heap.push { cls := .type "tuple", data := .seq items.toList.reverse.toArray } })
    (hsz : items.size ≤ sizeLine) : wpAny (model prog w) A (getItem (.ref t) (.ref sl)) Q E s := by
  have htake : sizeOk (.seq items.toList.reverse.toArray) := by
    show items.toList.reverse.toArray.size ≤ sizeLine
    simpa using hsz
  obtain ⟨os, hos, hcs, hds⟩ := id hs
  have hTs : s.TypeIs (.ref sl) "slice" := ⟨os, hos, hcs⟩
  unfold getItem
  try with_reducible refine wpAny_holding ?_
  first | refine wpAny_bind (wpAny_pure ?_) | skip
  refine wpAny_bind (wpAny_sequenceKey ht.typeIs (by decide) ?_)
  refine wpAny_bind (wpAny_callSpecial?_slot (name := Str.ofString "__getitem__") ht.typeIs PyProof.Rows.slot_tuple_getitem
    (wpAny_call_entry PyProof.Rows.slot_tuple_getitem ht.typeIs entry_tuple_getitem ?_ (args_tuple_getitem _ _)))
  show wpAny _ _ (Builtin.Tuple.tupleItemsOf (.ref t) >>= _) _ _ s
  refine wpAny_bind (tupleItemsOf_ ht ?_)
  refine wpAny_bind (wpAny_typeOf hTs ?_)
  rw [if_pos (by decide)]
  refine wpAny_bind (sliceApplied_rev hs pl pu ps ?_)
  have hno : ¬ ((((items.size : Nat) : Int) - 1 == 0 && (-1 : Int) == 1 && items.size == items.size) = true) := by
    intro q
    rw [Bool.and_eq_true, Bool.and_eq_true] at q
    exact absurd q.1.2 (by decide)
  show wpAny _ _ (if (((items.size : Nat) : Int) - 1 == 0 && (-1 : Int) == 1 && items.size == items.size) = true then _ else _) _ _ s
  rw [if_neg hno, pick_rev]
  first
    | exact wpAny_bind (m := Builtin.Tuple.tupleExact _) (wpAny_newObj_type (wpAny_pure ⟨_, rfl, wpAny_pure h⟩) htake)
    | exact wpAny_bind (m := Builtin.Tuple.tupleExact _) (wpAny_newObj_type (wpAny_bind (wpAny_pure (wpAny_pure ⟨_, rfl, wpAny_pure h⟩))) htake)
    | exact wpAny_bind (wpAny_bind (m := Builtin.Tuple.tupleExact _) (wpAny_newObj_type (wpAny_pure (wpAny_pure ⟨_, rfl, wpAny_pure h⟩)) htake))
    | exact wpAny_bind (wpAny_bind (m := Builtin.Tuple.tupleExact _) (wpAny_newObj_type (wpAny_pure ⟨_, rfl, wpAny_pure h⟩) htake))
end
/-- xs[::-1]: of a list or a tuple -/
def tRevA (K : PySem.W.Frag) (te : TE) : TE := fun σ H Q => te σ H fun x H1 => ∃ a xs, x = .ref a ∧ ((SqL K H1 a xs ∧ ∀ p, H1 p = none → Q (.ref p) (upd H1 p (.lst xs.reverse))) ∨ (SqT K H1 a xs ∧ NewT xs.reverse H1 Q))
theorem pe_revA {X : Cx} {e : Expr} {te : TE} {k : Nat} {p1 p2 p3 pos : Pos} (he : PE X e te) : PE X (.Subscript e (.Slice none none (some (.UnaryOp .USub (.Constant (.int 1) k p1) p2)) p3) pos) (tRevA X.K te) := by
  refine ⟨fun pins s σ H Q I h => ?_⟩
  refine Subscript_ (thn (he.run pins s σ H _ I h) fun v s1 ⟨x, H1, I1, r1, q1⟩ => ?_)
  obtain ⟨a, xs, ex, hx⟩ := q1
  subst ex
  cases r1
  have hst : PO X (some (.UnaryOp .USub (.Constant (.int 1) k p1) p2)) (tPart (tUn (rU fun i => .int (-i)) (tC (.int 1)))) := po_some (pe_un un_neg pe_int)
  refine wpAny_Slice (thn (po_none.run pins s1 σ H1 (fun o H2 => o = none ∧ H2 = H1) I1 ⟨rfl, rfl⟩) fun vl s2 ⟨l, H2, I2, pl, el, e2⟩ => ?_)
  subst el e2
  refine thn (po_none.run pins s2 σ H2 (fun o H3 => o = none ∧ H3 = H2) I2 ⟨rfl, rfl⟩) fun vu s3 ⟨u, H3, I3, pu, eu, e3⟩ => ?_
  subst eu e3
  refine thn (hst.run pins s3 σ H3 (fun o H4 => o = some (-1) ∧ H4 = H3) I3 ⟨1, rfl, -1, rfl, rfl, rfl⟩) fun vs s4 ⟨o, H4, I4, ps, eo, e4⟩ => ?_
  subst eo e4
  have I5 : Inv X pins σ H4 { s4 with heap := s4.heap.push { cls := .type "slice", data := .fields #[vl, vu, vs] } } := I4.kept (t' := s4.toks) fun b ob q => Heap.get?_push_of_some _ q
  show wpAny (model X.prog X.w) X.A (subscriptTail e (.Slice none none (some (.UnaryOp .USub (.Constant (.int 1) k p1) p2)) p3) (.ref a) (.ref s4.heap.objs.size)) (EP X pins σ Q) X.xe { s4 with heap := s4.heap.push { cls := .type "slice", data := .fields #[vl, vu, vs] } }
  rcases hx with ⟨hx, q⟩ | ⟨hx, q⟩
  · obtain ⟨its, r, ht, hz⟩ := I5.list hx
    have hlen := r.length
    refine tail_any (ops := [.ref a, .ref s4.heap.objs.size]) ht.isList.typeIs (PySem.slot_list_getitem.lookup) ?_ (by with_unfolding_all rfl)
    refine wpAny_getItem_list_slice ht.isList (Heap.IsSliceOf.new _ vl vu vs) pl pu ps (by decide) ?_ (by rw [List.size_toArray]; omega)
    rw [PySem.W.krv_pick]
    refine ⟨.ref _, _, I5.laid (t' := s4.toks) (o := .lst xs.reverse) (fun b ob q => Heap.get?_push_of_some _ q) (Nat.le_refl _) ?_, rfl, q _ (I5.hok.fresh (Nat.le_refl _))⟩
    exact ⟨by rw [List.length_reverse]; exact hz, _, 0, r.reverse, Heap.get?_push_size _ rfl⟩
  · obtain ⟨its, r, ht, hz⟩ := I5.tuple hx
    have hlen := r.length
    refine tail_any (ops := [.ref a, .ref s4.heap.objs.size]) ht.typeIs PyProof.Rows.slot_tuple_getitem.lookup ?_ (by with_unfolding_all rfl)
    refine getItem_tuple_rev ht (Heap.IsSliceOf.new _ vl vu vs) pl pu ps ?_ (by rw [List.size_toArray]; omega)
    exact laid_tup (t' := s4.toks) I5 r.reverse (by rw [List.length_reverse]; exact hz) q
end DL
namespace DL
open PySem PySem.Spec PyProof.Rows L2
section
variable {X : Cx} {a b c e : Expr} {es : List Expr} {fa fb fc : FE} {fs : FA} {pos : Pos}

/-! ### subscripts -/
def gIx : PyData → PyData → Option Res
  | .list xs, .int i => (atI xs i).map .fz
  | .tuple xs, .int i => (atI xs i).map .fz
  | .str z, .int i => if small z.length then (atI z.cps.toList i).map fun c => .fz (.str ⟨#[c]⟩) else none
  | _, _ => none
theorem dpa_atI {K : PySem.W.Frag} {H : Hp} {vs : List V} {ds : List PyData} {i : Int} {d : PyData} (h : DpAll K H vs ds) (e : atI ds i = some d) : ∃ v, atI vs i = some v ∧ Dp K H v d := by
  unfold atI at e ⊢
  rw [dpa_len h]
  obtain ⟨j, h1, h2⟩ := Option.bind_eq_some_iff.mp e
  rw [h1]
  exact dpa_get h h2
theorem o_ix {K : PySem.W.Frag} : Op2 K (rIx K) gIx := fun B H0 Hf H v u a b c Q e1 e2 q1 q2 hg k => by
  unfold gIx at hg
  split at hg
  · rename_i xs i h1 h2
    obtain ⟨d, h3, h4⟩ := Option.map_eq_some_iff.mp hg
    subst h4
    obtain ⟨p, vs, rfl, s1, d1⟩ := q1.lst e1 h1
    obtain ⟨w, h5, h6⟩ := dpa_atI d1 h3
    exact .inl ⟨p, vs, i, w, rfl, q2.int h2, s1, h5, k _ Hf H (Gr.refl e1) h6⟩
  · rename_i xs i h1 h2
    obtain ⟨d, h3, h4⟩ := Option.map_eq_some_iff.mp hg
    subst h4
    obtain ⟨p, vs, rfl, s1, d1⟩ := q1.tup h1
    obtain ⟨w, h5, h6⟩ := dpa_atI d1 h3
    exact .inr (.inl ⟨p, vs, i, w, rfl, q2.int h2, sqt_mono e1 s1, h5, k _ Hf H (Gr.refl e1) h6⟩)
  · rename_i z i h1 h2
    split at hg
    · rename_i hz
      obtain ⟨d, h3, h4⟩ := Option.map_eq_some_iff.mp hg
      subst h4
      exact .inr (.inr ⟨z, i, d, q1.str h1, q2.int h2, sm_line hz, h3, k _ Hf H (Gr.refl e1) (Dp.str _)⟩)
    · cases hg
  · cases hg
theorem d_ix (ha : DE X a fa) (hb : DE X b fb) (hs : PlainIx b := by intro _ _; rfl) : DE X (.Subscript a b pos) (f2 gIx fa fb) := pe_mono (pe_ix ix_seq ha hb hs) (ent2 o_ix)

/-! ### slices -/
def tDO (K : PySem.W.Frag) (f : Rho → Option (Option Int)) : TO := fun σ H Q => ∃ B Hf ρ o, ER K B Hf H σ ρ ∧ f ρ = some o ∧ ∀ Hf' H', Gr Hf H Hf' H' → Q o H'
abbrev DO (X : Cx) (e : Option Expr) (f : Rho → Option (Option Int)) : Prop := PO X e (tDO X.K f)
theorem po_mono {X : Cx} {e : Option Expr} {t t' : TO} (h : PO X e t) (k : ∀ σ H Q, t' σ H Q → t σ H Q) : PO X e t' := ⟨fun pins s σ H Q I q => h.run pins s σ H Q I (k _ _ _ q)⟩
def oNone : Rho → Option (Option Int) := fun _ => some none
def oSome (f : FE) : Rho → Option (Option Int) := fun ρ => (f ρ).bind fun r => match r.rd with
  | .int i => some (some i)
  | _ => none
theorem p_none : DO X none oNone := po_mono po_none fun σ H Q h => by
  obtain ⟨B, Hf, ρ, o, er, hf, k⟩ := h
  cases hf
  exact k _ _ (Gr.refl er.fh)
theorem p_some (ha : DE X e fa) : DO X (some e) (oSome fa) := po_mono (po_some ha) fun σ H Q h => by
  obtain ⟨B, Hf, ρ, o, er, hf, k⟩ := h
  unfold oSome at hf
  obtain ⟨r, h1, h2⟩ := Option.bind_eq_some_iff.mp hf
  split at h2
  · rename_i i hi
    cases h2
    exact ⟨B, Hf, ρ, r, er, h1, fun v Hf' H' g' q => ⟨i, q.int hi, k _ _ g'⟩⟩
  · cases h2
def cutD {α : Type} (xs : List α) (lo hi : Option Int) : List α := (xs.drop (HT.sIx xs.length 0 lo)).take (HT.sIx xs.length xs.length hi - HT.sIx xs.length 0 lo)
theorem dpa_cut {K : PySem.W.Frag} {H : Hp} {vs : List V} {ds : List PyData} (h : DpAll K H vs ds) (lo hi : Option Int) : DpAll K H (cutV vs lo hi) (cutD ds lo hi) := by
  unfold cutV cutD
  rw [dpa_len h]
  exact dpa_take _ (dpa_drop _ h)
def rSlX (K : PySem.W.Frag) : V → Option Int → Option Int → Hp → VK → Prop := fun x lo hi H Q => rSlL K x lo hi H Q ∨ (rSlF K x lo hi H Q ∨ rSlS x lo hi H Q)
theorem sl_any : SlR X (rSlX X.K) := sl_list.or (sl_tupF.or sl_str)
def gSl (d : PyData) (lo hi : Option Int) : Option Res := match d with
  | .list xs => some (.nw (cutD xs lo hi))
  | .tuple xs => some (.fz (.tuple (cutD xs lo hi)))
  | .str z => if small z.length then some (.fz (.str (cutS z lo hi))) else none
  | _ => none
def fSl (fa : FE) (o1 o2 : Rho → Option (Option Int)) : FE := fun ρ => (fa ρ).bind fun a => (o1 ρ).bind fun lo => (o2 ρ).bind fun hi => gSl a.rd lo hi
variable {o1 o2 : Rho → Option (Option Int)} {lo hi : Option Expr} {p2 : Pos}
theorem cut_whole {α : Type} (xs : List α) (l h : Option Int) (w : HT.sIx xs.length 0 l = 0 ∧ HT.sIx xs.length xs.length h = xs.length) : cutD xs l h = xs := by
  unfold cutD
  rw [w.1, w.2, List.drop_zero, Nat.sub_zero, List.take_length]
theorem d_sl (ha : DE X e fa) (hl : DO X lo o1) (hu : DO X hi o2) : DE X (.Subscript e (.Slice lo hi none p2) pos) (fSl fa o1 o2) := pe_mono (pe_slice sl_any ha hl hu) fun σ H Q h => by
  obtain ⟨B, Hf, ρ, r, er, hf, k⟩ := h
  unfold fSl at hf
  obtain ⟨ra, h1, hf⟩ := Option.bind_eq_some_iff.mp hf
  obtain ⟨l, h2, hf⟩ := Option.bind_eq_some_iff.mp hf
  obtain ⟨u, h3, hf⟩ := Option.bind_eq_some_iff.mp hf
  refine ⟨B, Hf, ρ, ra, er, h1, fun v Hf1 H1 g1 q1 => ⟨B, Hf1, ρ, l, er.grow g1, h2, fun Hf2 H2 g2 => ⟨B, Hf2, ρ, u, (er.grow g1).grow g2, h3, fun Hf3 H3 g3 => ?_⟩⟩⟩
  have g := (g1.trans g2).trans g3
  have q3 := q1.grow (g2.trans g3)
  have e1 := g.fh
  unfold gSl at hf
  split at hf
  · rename_i xs hx
    cases hf
    obtain ⟨p, vs, rfl, s1, d1⟩ := q3.lst e1 hx
    refine .inl ⟨p, vs, rfl, s1, fun n hn => ?_⟩
    exact k _ _ _ (g.trans (Gr.newU e1 hn)) ⟨n, _, rfl, g.h.free hn, e1.free hn, upd_same, dpa_cut d1 _ _⟩
  · rename_i xs hx
    cases hf
    obtain ⟨p, vs, rfl, s1, d1⟩ := q3.tup hx
    refine .inr (.inl ⟨p, vs, rfl, sqt_mono e1 s1, fun w => ?_, fun w n ob hn hd => ?_⟩)
    · rw [dpa_len d1] at w
      rw [cut_whole xs l u w] at k
      exact k _ _ _ g (Dp.tup s1 d1)
    · have gn := Gr.new (o := .frz ob (.tup (cutV vs l u))) e1 hn (.tupF hd)
      exact k _ _ _ (g.trans gn) (Dp.tup (sqt_frz upd_same) (dpa_mono gn.f _ _ (dpa_cut d1 _ _)))
  · rename_i z hx
    split at hf
    · rename_i hz
      cases hf
      exact .inr (.inr ⟨z, q3.str hx, sm_line hz, k _ _ _ g (Dp.str _)⟩)
    · cases hf
  · cases hf
theorem dpa_rev {K : PySem.W.Frag} {H : Hp} : ∀ {vs : List V} {ds : List PyData}, DpAll K H vs ds → DpAll K H vs.reverse ds.reverse
  | _, _, .nil => .nil
  | _, _, .cons a t => by
    rw [List.reverse_cons, List.reverse_cons]
    exact dpa_app (dpa_rev t) (.cons a .nil)
def gRev : PyData → Option Res
  | .list xs => some (.nw xs.reverse)
  | .tuple xs => some (.fz (.tuple xs.reverse))
  | _ => none
theorem d_rev {k : Nat} {p1 p2 p3 : Pos} (ha : DE X e fa) : DE X (.Subscript e (.Slice none none (some (.UnaryOp .USub (.Constant (.int 1) k p1) p2)) p3) pos) (f1 gRev fa) := pe_mono (pe_revA ha) fun σ H Q h => by
  obtain ⟨B, Hf, ρ, r, er, hf, k⟩ := h
  unfold f1 at hf
  obtain ⟨ra, h1, hf⟩ := Option.bind_eq_some_iff.mp hf
  refine ⟨B, Hf, ρ, ra, er, h1, fun v Hf1 H1 g q => ?_⟩
  have e1 := g.fh
  unfold gRev at hf
  split at hf
  · rename_i xs hx
    cases hf
    obtain ⟨p, vs, rfl, s1, d1⟩ := q.lst e1 hx
    refine ⟨p, vs, rfl, .inl ⟨s1, fun n hn => ?_⟩⟩
    exact k _ _ _ (g.trans (Gr.newU e1 hn)) ⟨n, _, rfl, g.h.free hn, e1.free hn, upd_same, dpa_rev d1⟩
  · rename_i xs hx
    cases hf
    obtain ⟨p, vs, rfl, s1, d1⟩ := q.tup hx
    refine ⟨p, vs, rfl, .inr ⟨sqt_mono e1 s1, fun n ob hn hd => ?_⟩⟩
    have gn := Gr.new (o := .frz ob (.tup vs.reverse)) e1 hn (.tupF hd)
    exact k _ _ _ (g.trans gn) (Dp.tup (sqt_frz upd_same) (dpa_mono gn.f _ _ (dpa_rev d1)))
  · cases hf

/-! ### calls of built-ins -/
def OpC (K : PySem.W.Frag) (r : List V → Hp → VK → Prop) (g : List PyData → Option Res) : Prop :=
  ∀ (B H0 Hf H : Hp) (vs : List V) (rs : List Res) (c : Res) (Q : VK), Same Hf H → Same H0 H → RRs K B H0 Hf H vs rs → g (rs.map Res.rd) = some c →
    (∀ w Hf' H', Gr Hf H Hf' H' → RR K B H Hf' H' w c → Q w H') → r vs H Q
def fC1 (g : List PyData → Option Res) (fs : FA) : FE := fun ρ => (fs ρ).bind fun rs => g (rs.map Res.rd)
theorem entC {K : PySem.W.Frag} {r : List V → Hp → VK → Prop} {g : List PyData → Option Res} (o : OpC K r g) : ∀ σ H Q, tD K (fC1 g fs) σ H Q → tCB r (tDA K fs) σ H Q := fun σ H Q h => by
  obtain ⟨B, Hf, ρ, c, er, hf, k⟩ := h
  unfold fC1 at hf
  obtain ⟨rs, h1, hf⟩ := Option.bind_eq_some_iff.mp hf
  exact ⟨B, Hf, ρ, rs, er, h1, fun vs Hf1 H1 g1 q1 => o B H Hf1 H1 vs rs c Q g1.fh g1.h q1 hf fun w Hf3 H3 g3 q3 => k w Hf3 H3 (g1.trans g3) (q3.back g1.h)⟩
theorem RRs.one {K : PySem.W.Frag} {B H0 Hf H : Hp} {vs : List V} {rs : List Res} {x : PyData} (q : RRs K B H0 Hf H vs rs) (h : rs.map Res.rd = [x]) : ∃ v r, vs = [v] ∧ rs = [r] ∧ r.rd = x ∧ RR K B H0 Hf H v r := by
  cases q with
  | nil => cases h
  | cons a t =>
    cases t with
    | nil => cases h; exact ⟨_, _, rfl, rfl, rfl, a⟩
    | cons b u => cases h
theorem RRs.two {K : PySem.W.Frag} {B H0 Hf H : Hp} {vs : List V} {rs : List Res} {x y : PyData} (q : RRs K B H0 Hf H vs rs) (h : rs.map Res.rd = [x, y]) : ∃ v r w s, vs = [v, w] ∧ rs = [r, s] ∧ r.rd = x ∧ s.rd = y ∧ RR K B H0 Hf H v r ∧ RR K B H0 Hf H w s := by
  cases q with
  | nil => cases h
  | cons a t =>
    cases t with
    | nil => cases h
    | cons b u =>
      cases u with
      | nil => cases h; exact ⟨_, _, _, _, rfl, rfl, rfl, rfl, a, b⟩
      | cons c z => cases h
/-- len -/
def gLen : List PyData → Option Res
  | [.list xs] => some (.fz (.int xs.length))
  | [.tuple xs] => some (.fz (.int xs.length))
  | [.str x] => if small x.length then some (.fz (.int x.length)) else none
  | _ => none
theorem c_len {K : PySem.W.Frag} : OpC K (fun xs H Q => ∃ x n, xs = [x] ∧ LenV K x H n ∧ Q (.int n) H) gLen := fun B H0 Hf H vs rs c Q e1 e2 q hg k => by
  unfold gLen at hg
  split at hg
  · rename_i xs h
    cases hg
    obtain ⟨v, r, rfl, rfl, hr, q1⟩ := q.one h
    obtain ⟨p, ws, rfl, s1, d1⟩ := q1.lst e1 hr
    exact ⟨_, xs.length, rfl, .inl ⟨ws, s1, (dpa_len d1).symm⟩, k _ Hf H (Gr.refl e1) (Dp.int _)⟩
  · rename_i xs h
    cases hg
    obtain ⟨v, r, rfl, rfl, hr, q1⟩ := q.one h
    obtain ⟨p, ws, rfl, s1, d1⟩ := q1.tup hr
    exact ⟨_, xs.length, rfl, .inr ⟨ws, sqt_mono e1 s1, (dpa_len d1).symm⟩, k _ Hf H (Gr.refl e1) (Dp.int _)⟩
  · rename_i x h
    split at hg
    · rename_i hz
      cases hg
      obtain ⟨v, r, rfl, rfl, hr, q1⟩ := q.one h
      cases q1.str hr
      exact ⟨_, x.length, rfl, ⟨sm_line hz, rfl⟩, k _ Hf H (Gr.refl e1) (Dp.int _)⟩
    · cases hg
  · cases hg
def gAbs : List PyData → Option Res
  | [.int i] => some (.fz (.int (if i < 0 then -i else i)))
  | _ => none
theorem c_abs {K : PySem.W.Frag} : OpC K (fun xs H Q => ∃ i, xs = [.int i] ∧ Q (.int (if i < 0 then -i else i)) H) gAbs := fun B H0 Hf H vs rs c Q e1 e2 q hg k => by
  unfold gAbs at hg
  split at hg
  · rename_i i h
    cases hg
    obtain ⟨v, r, rfl, rfl, hr, q1⟩ := q.one h
    cases q1.int hr
    exact ⟨i, rfl, k _ Hf H (Gr.refl e1) (Dp.int _)⟩
  · cases hg
def gInt : List PyData → Option Res
  | [.int i] => some (.fz (.int i))
  | [.bool b] => some (.fz (.int (if b then 1 else 0)))
  | _ => none
theorem c_int {K : PySem.W.Frag} : OpC K (fun xs H Q => (∃ i, xs = [.int i] ∧ Q (.int i) H) ∨ ∃ k, xs = [.bl k] ∧ Q (.int (if k then 1 else 0)) H) gInt := fun B H0 Hf H vs rs c Q e1 e2 q hg k => by
  unfold gInt at hg
  split at hg
  · rename_i i h
    cases hg
    obtain ⟨v, r, rfl, rfl, hr, q1⟩ := q.one h
    cases q1.int hr
    exact .inl ⟨i, rfl, k _ Hf H (Gr.refl e1) (Dp.int _)⟩
  · rename_i b h
    cases hg
    obtain ⟨v, r, rfl, rfl, hr, q1⟩ := q.one h
    cases q1.bl hr
    exact .inr ⟨b, rfl, k _ Hf H (Gr.refl e1) (Dp.int _)⟩
  · cases hg
def gTuple : List PyData → Option Res
  | [.list xs] => some (.fz (.tuple xs))
  | [.tuple xs] => some (.fz (.tuple xs))
  | _ => none
theorem c_tuple {K : PySem.W.Frag} : OpC K (rTupF K) gTuple := fun B H0 Hf H vs rs c Q e1 e2 q hg k => by
  unfold gTuple at hg
  split at hg
  · rename_i xs h
    cases hg
    obtain ⟨v, r, rfl, rfl, hr, q1⟩ := q.one h
    obtain ⟨p, ws, rfl, s1, d1⟩ := q1.lst e1 hr
    refine ⟨p, ws, rfl, .inl ⟨s1, fun n ob hn hd => ?_⟩⟩
    have gn := Gr.new (o := .frz ob (.tup ws)) e1 hn (.tupF hd)
    exact k _ _ _ gn (Dp.tup (sqt_frz upd_same) (dpa_mono gn.f _ _ d1))
  · rename_i xs h
    cases hg
    obtain ⟨v, r, rfl, rfl, hr, q1⟩ := q.one h
    obtain ⟨p, ws, rfl, s1, d1⟩ := q1.tup hr
    exact ⟨p, ws, rfl, .inr ⟨sqt_mono e1 s1, k _ Hf H (Gr.refl e1) (Dp.tup s1 d1)⟩⟩
  · cases hg
def gList : List PyData → Option Res
  | [.list xs] => some (.nw xs)
  | [.tuple xs] => some (.nw xs)
  | _ => none
theorem c_list {K : PySem.W.Frag} : OpC K (fun xs H Q => ∃ p ys, xs = [.ref p] ∧ (SqL K H p ys ∨ SqT K H p ys) ∧ ∀ l, H l = none → Q (.ref l) (upd H l (.lst ys))) gList := fun B H0 Hf H vs rs c Q e1 e2 q hg k => by
  unfold gList at hg
  split at hg
  · rename_i xs h
    cases hg
    obtain ⟨v, r, rfl, rfl, hr, q1⟩ := q.one h
    obtain ⟨p, ws, rfl, s1, d1⟩ := q1.lst e1 hr
    refine ⟨p, ws, rfl, .inl s1, fun n hn => ?_⟩
    exact k _ _ _ (Gr.newU e1 hn) ⟨n, _, rfl, hn, e1.free hn, upd_same, d1⟩
  · rename_i xs h
    cases hg
    obtain ⟨v, r, rfl, rfl, hr, q1⟩ := q.one h
    obtain ⟨p, ws, rfl, s1, d1⟩ := q1.tup hr
    refine ⟨p, ws, rfl, .inr (sqt_mono e1 s1), fun n hn => ?_⟩
    exact k _ _ _ (Gr.newU e1 hn) ⟨n, _, rfl, hn, e1.free hn, upd_same, d1⟩
  · cases hg
/-- a list of ints as ints; of bools -/
def intsOf : List PyData → Option (List Int)
  | [] => some []
  | .int i :: r => (intsOf r).map (i :: ·)
  | _ :: _ => none
theorem intsOf_some : ∀ {ds : List PyData} {ns : List Int}, intsOf ds = some ns → ds = ns.map PyData.int
  | [], _, h => by cases h; rfl
  | .int i :: r, _, h => by
    obtain ⟨ms, h1, h2⟩ := Option.map_eq_some_iff.mp (show (intsOf r).map (i :: ·) = _ from h)
    subst h2
    rw [List.map_cons, ← intsOf_some h1]
  | .none :: _, _, h => by cases h
  | .bool _ :: _, _, h => by cases h
  | .str _ :: _, _, h => by cases h
  | .list _ :: _, _, h => by cases h
  | .tuple _ :: _, _, h => by cases h
  | .dict _ :: _, _, h => by cases h
theorem intsOf_map : ∀ ns : List Int, intsOf (ns.map PyData.int) = some ns
  | [] => rfl
  | n :: ns => by
    rw [List.map_cons]
    show (intsOf (ns.map PyData.int)).map (n :: ·) = _
    rw [intsOf_map ns]
    rfl
def boolsOf : List PyData → Option (List Bool)
  | [] => some []
  | .bool i :: r => (boolsOf r).map (i :: ·)
  | _ :: _ => none
theorem boolsOf_some : ∀ {ds : List PyData} {ns : List Bool}, boolsOf ds = some ns → ds = ns.map PyData.bool
  | [], _, h => by cases h; rfl
  | .bool i :: r, _, h => by
    obtain ⟨ms, h1, h2⟩ := Option.map_eq_some_iff.mp (show (boolsOf r).map (i :: ·) = _ from h)
    subst h2
    rw [List.map_cons, ← boolsOf_some h1]
  | .none :: _, _, h => by cases h
  | .int _ :: _, _, h => by cases h
  | .str _ :: _, _, h => by cases h
  | .list _ :: _, _, h => by cases h
  | .tuple _ :: _, _, h => by cases h
  | .dict _ :: _, _, h => by cases h
theorem boolsOf_map : ∀ ns : List Bool, boolsOf (ns.map PyData.bool) = some ns
  | [] => rfl
  | n :: ns => by
    rw [List.map_cons]
    show (boolsOf (ns.map PyData.bool)).map (n :: ·) = _
    rw [boolsOf_map ns]
    rfl
theorem dpa_bools' {K : PySem.W.Frag} {H : Hp} : ∀ {vs : List V} {ns : List Bool}, DpAll K H vs (ns.map PyData.bool) → vs = ns.map V.bl
  | _, [], h => by cases h; rfl
  | _, n :: ns, h => by
    cases h with
    | cons a t =>
      cases a
      rw [dpa_bools' t, List.map_cons]
/-- the lists of a call with one list of ints (bools) -/
theorem RRs.ints {K : PySem.W.Frag} {B H0 Hf H : Hp} {vs : List V} {rs : List Res} {xs : List PyData} {ns : List Int} (q : RRs K B H0 Hf H vs rs) (e1 : Same Hf H) (h : rs.map Res.rd = [.list xs]) (hi : intsOf xs = some ns) : ∃ a, vs = [.ref a] ∧ SqL K H a (ns.map V.int) := by
  obtain ⟨v, r, rfl, rfl, hr, q1⟩ := q.one h
  obtain ⟨p, ws, rfl, s1, d1⟩ := q1.lst e1 hr
  rw [intsOf_some hi] at d1
  rw [dpa_ints' d1] at s1
  exact ⟨p, rfl, s1⟩
theorem RRs.bools {K : PySem.W.Frag} {B H0 Hf H : Hp} {vs : List V} {rs : List Res} {xs : List PyData} {ns : List Bool} (q : RRs K B H0 Hf H vs rs) (e1 : Same Hf H) (h : rs.map Res.rd = [.list xs]) (hi : boolsOf xs = some ns) : ∃ a, vs = [.ref a] ∧ SqL K H a (ns.map V.bl) := by
  obtain ⟨v, r, rfl, rfl, hr, q1⟩ := q.one h
  obtain ⟨p, ws, rfl, s1, d1⟩ := q1.lst e1 hr
  rw [boolsOf_some hi] at d1
  rw [dpa_bools' d1] at s1
  exact ⟨p, rfl, s1⟩
def gSum : List PyData → Option Res
  | [.list xs] => (intsOf xs).map fun ns => .fz (.int ns.sum)
  | _ => none
theorem c_sum {K : PySem.W.Frag} : OpC K (rSum K) gSum := fun B H0 Hf H vs rs c Q e1 e2 q hg k => by
  unfold gSum at hg
  split at hg
  · rename_i xs h
    obtain ⟨ns, h1, h2⟩ := Option.map_eq_some_iff.mp hg
    subst h2
    obtain ⟨a, rfl, s⟩ := q.ints e1 h h1
    exact ⟨a, ns, rfl, s, k _ Hf H (Gr.refl e1) (Dp.int _)⟩
  · cases hg
def gAll : List PyData → Option Res
  | [.list xs] => (boolsOf xs).map fun ns => .fz (.bool (ns.all id))
  | _ => none
theorem c_all {K : PySem.W.Frag} : OpC K (rAll K) gAll := fun B H0 Hf H vs rs c Q e1 e2 q hg k => by
  unfold gAll at hg
  split at hg
  · rename_i xs h
    obtain ⟨ns, h1, h2⟩ := Option.map_eq_some_iff.mp hg
    subst h2
    obtain ⟨a, rfl, s⟩ := q.bools e1 h h1
    exact ⟨a, ns, rfl, s, k _ Hf H (Gr.refl e1) (Dp.bl _)⟩
  · cases hg
def gAny : List PyData → Option Res
  | [.list xs] => (boolsOf xs).map fun ns => .fz (.bool (ns.any id))
  | _ => none
theorem c_any {K : PySem.W.Frag} : OpC K (rAny K) gAny := fun B H0 Hf H vs rs c Q e1 e2 q hg k => by
  unfold gAny at hg
  split at hg
  · rename_i xs h
    obtain ⟨ns, h1, h2⟩ := Option.map_eq_some_iff.mp hg
    subst h2
    obtain ⟨a, rfl, s⟩ := q.bools e1 h h1
    exact ⟨a, ns, rfl, s, k _ Hf H (Gr.refl e1) (Dp.bl _)⟩
  · cases hg
def minL : List Int → Int
  | [] => 0
  | [x] => x
  | x :: y :: r => min x (minL (y :: r))
def maxL : List Int → Int
  | [] => 0
  | [x] => x
  | x :: y :: r => max x (maxL (y :: r))
theorem minL_mem : ∀ {ns : List Int}, ns ≠ [] → minL ns ∈ ns
  | [], h => absurd rfl h
  | [x], _ => by simp [minL]
  | x :: y :: r, _ => by
    have ih := minL_mem (ns := y :: r) (by simp)
    show min x (minL (y :: r)) ∈ _
    rcases Int.le_total x (minL (y :: r)) with h | h
    · rw [Int.min_eq_left h]; exact List.mem_cons_self
    · rw [Int.min_eq_right h]; exact List.mem_cons_of_mem _ ih
theorem minL_le : ∀ {ns : List Int} {z : Int}, z ∈ ns → minL ns ≤ z
  | [x], z, h => by simp at h; subst h; exact Int.le_refl _
  | x :: y :: r, z, h => by
    show min x (minL (y :: r)) ≤ z
    rcases List.mem_cons.mp h with e | h
    · subst e; exact Int.min_le_left _ _
    · exact Int.le_trans (Int.min_le_right _ _) (minL_le h)
theorem maxL_mem : ∀ {ns : List Int}, ns ≠ [] → maxL ns ∈ ns
  | [], h => absurd rfl h
  | [x], _ => by simp [maxL]
  | x :: y :: r, _ => by
    have ih := maxL_mem (ns := y :: r) (by simp)
    show max x (maxL (y :: r)) ∈ _
    rcases Int.le_total x (maxL (y :: r)) with h | h
    · rw [Int.max_eq_right h]; exact List.mem_cons_of_mem _ ih
    · rw [Int.max_eq_left h]; exact List.mem_cons_self
theorem le_maxL : ∀ {ns : List Int} {z : Int}, z ∈ ns → z ≤ maxL ns
  | [x], z, h => by simp at h; subst h; exact Int.le_refl _
  | x :: y :: r, z, h => by
    show z ≤ max x (maxL (y :: r))
    rcases List.mem_cons.mp h with e | h
    · subst e; exact Int.le_max_left _ _
    · exact Int.le_trans (le_maxL h) (Int.le_max_right _ _)
def gMin : List PyData → Option Res
  | [.list xs] => (intsOf xs).bind fun ns => if ns = [] then none else some (.fz (.int (minL ns)))
  | [.int i, .int j] => some (.fz (.int (if j < i then j else i)))
  | _ => none
def gMax : List PyData → Option Res
  | [.list xs] => (intsOf xs).bind fun ns => if ns = [] then none else some (.fz (.int (maxL ns)))
  | [.int i, .int j] => some (.fz (.int (if j > i then j else i)))
  | _ => none
theorem c_min {K : PySem.W.Frag} : OpC K (fun xs H Q => rMin K xs H Q ∨ ∃ i j, xs = [.int i, .int j] ∧ Q (.int (if j < i then j else i)) H) gMin := fun B H0 Hf H vs rs c Q e1 e2 q hg k => by
  unfold gMin at hg
  split at hg
  · rename_i xs h
    obtain ⟨ns, h1, h2⟩ := Option.bind_eq_some_iff.mp hg
    split at h2
    · cases h2
    · rename_i hne
      cases h2
      obtain ⟨a, rfl, s⟩ := q.ints e1 h h1
      refine .inl ⟨a, ns, rfl, s, List.length_pos_iff.mpr hne, fun m h3 h4 => ?_⟩
      have e : m = minL ns := Int.le_antisymm (h4 _ (minL_mem hne)) (minL_le h3)
      rw [e]
      exact k _ Hf H (Gr.refl e1) (Dp.int _)
  · rename_i i j h
    cases hg
    obtain ⟨v, r, w, s, rfl, rfl, h1, h2, q1, q2⟩ := q.two h
    cases q1.int h1
    cases q2.int h2
    exact .inr ⟨i, j, rfl, k _ Hf H (Gr.refl e1) (Dp.int _)⟩
  · cases hg
theorem c_max {K : PySem.W.Frag} : OpC K (fun xs H Q => rMax K xs H Q ∨ ∃ i j, xs = [.int i, .int j] ∧ Q (.int (if j > i then j else i)) H) gMax := fun B H0 Hf H vs rs c Q e1 e2 q hg k => by
  unfold gMax at hg
  split at hg
  · rename_i xs h
    obtain ⟨ns, h1, h2⟩ := Option.bind_eq_some_iff.mp hg
    split at h2
    · cases h2
    · rename_i hne
      cases h2
      obtain ⟨a, rfl, s⟩ := q.ints e1 h h1
      refine .inl ⟨a, ns, rfl, s, List.length_pos_iff.mpr hne, fun m h3 h4 => ?_⟩
      have e : m = maxL ns := Int.le_antisymm (le_maxL h3) (h4 _ (maxL_mem hne))
      rw [e]
      exact k _ Hf H (Gr.refl e1) (Dp.int _)
  · rename_i i j h
    cases hg
    obtain ⟨v, r, w, s, rfl, rfl, h1, h2, q1, q2⟩ := q.two h
    cases q1.int h1
    cases q2.int h2
    exact .inr ⟨i, j, rfl, k _ Hf H (Gr.refl e1) (Dp.int _)⟩
  · cases hg
/-- a built-in function, a built-in class -/
theorem d_blt {x : Str} {p : Pos} {id : String} {r : List V → Hp → VK → Prop} {g : List PyData → Option Res} (hc : CallR X (.builtin id) r) (o : OpC X.K r g) (hm : X.mg x = none) (hv : bootBuiltins x = some (.builtin id)) (ha : DA X (e :: es) fs) (hg : Gl X x := by rfl) (hn : x ≠ "__name__" := by decide) (hdb : (x == ("__debug__" : Str)) = false := by decide)
    (he : starEach (e :: es) X.env = (false, eval e X.env) :: starEach es X.env := by rfl) (hpl : (backTo pos (starEach es X.env)).any (·.1) = false := by rfl) : DE X (.Call (.Name x p) (e :: es) [] pos) (fC1 g fs) := pe_mono (pe_callB hc hg hm hv ha hn hdb he hpl) (entC o)
theorem d_ty {x : Str} {p : Pos} {id : String} {r : List V → Hp → VK → Prop} {g : List PyData → Option Res} (hc : CallR X (.type id) r) (o : OpC X.K r g) (hm : X.mg x = none) (hv : bootBuiltins x = some (.type id)) (ha : DA X (e :: es) fs) (hg : Gl X x := by rfl) (hn : x ≠ "__name__" := by decide) (hdb : (x == ("__debug__" : Str)) = false := by decide)
    (he : starEach (e :: es) X.env = (false, eval e X.env) :: starEach es X.env := by rfl) (hpl : (backTo pos (starEach es X.env)).any (·.1) = false := by rfl) : DE X (.Call (.Name x p) (e :: es) [] pos) (fC1 g fs) := pe_mono (pe_callTy hc hg hm hv ha hn hdb he hpl) (entC o)
/-- isinstance(e, T), T a built-in class -/
def kindS : PyData → String
  | .none => "NoneType"
  | .bool _ => "bool"
  | .int _ => "int"
  | .str _ => "str"
  | .list _ => "list"
  | .tuple _ => "tuple"
  | .dict _ => "dict"
theorem tyx_of {K : PySem.W.Frag} {H : Hp} {v : V} {d : PyData} (h : Dp K H v d) : TyX K H v (.type (kindS d)) := by
  cases h with
  | non => exact .base .non
  | bl b => exact .base (.bl b)
  | int i => exact .base (.int i)
  | str x => exact .base (.str x)
  | lst hs ha =>
    rcases hs with (hs | ⟨o, hs⟩) | ⟨o, its, n, h1, h2, _⟩
    · exact .base (.lst hs)
    · exact .base (.frz hs)
    · exact .kList h1 h2
  | tup hs ha =>
    rcases hs with (hs | ⟨o, hs⟩) | ⟨o, its, n, h1, h2, _⟩
    · exact .base (.tup hs)
    · exact .fTuple hs
    · exact .kTuple h1 h2
def gIsi (n : String) : PyData → Option Res := fun d => (kitB (kindS d) n).map fun b => .fz (.bool b)
theorem d_isi {p q : Pos} {T : Str} {n : String} (ha : DE X e fa) (hm : X.mg "isinstance" = none) (hmT : X.mg T = none) (hvT : bootBuiltins T = some (.type n)) (hb : bootBuiltins "isinstance" = some (.builtin "isinstance")) (hg : Gl X "isinstance" := by rfl) (hgT : Gl X T := by rfl) (hn : T ≠ "__name__" := by decide) (hdb : (T == ("__debug__" : Str)) = false := by decide)
    (h1 : starEach [e, .Name T q] X.env = (false, eval e X.env) :: starEach [.Name T q] X.env := by rfl) (h2 : starEach [.Name T q] X.env = (false, eval (.Name T q) X.env) :: starEach [] X.env := by rfl) (hpl : (backTo pos (starEach [.Name T q] X.env)).any (·.1) = false := by rfl) :
    DE X (.Call (.Name "isinstance" p) [e, .Name T q] [] pos) (f1 (gIsi n) fa) := pe_mono (pe_callB call_isi hg hm hb (pa_cons ha (pa_cons (pe_bltn (v := .ty n) hgT hmT hvT rfl hn hdb) pa_nil h2) h1) (by decide) (by decide) h1 hpl) fun σ H Q h => by
  obtain ⟨B, Hf, ρ, r, er, hf, k⟩ := h
  unfold f1 at hf
  obtain ⟨ra, h1, hf⟩ := Option.bind_eq_some_iff.mp hf
  obtain ⟨b, h3, h4⟩ := Option.map_eq_some_iff.mp hf
  subst h4
  exact ⟨B, Hf, ρ, ra, er, h1, fun v Hf1 H1 g1 q1 => ⟨v, .ty n, _, _, b, rfl, .ty n, tyx_of (q1.dp g1.fh), kit_ty h3, k _ _ _ g1 (Dp.bl _)⟩⟩
end
end DL
namespace DL
open PySem PySem.Spec PyProof.Rows L2

/-! ### what is walked -/
/-- an iterator that yields these data while the heap Hb stands; Hf: what stands still -/
structure Itd (K : PySem.W.Frag) (Hb Hf : Hp) (J : It) (ds : List PyData) : Prop where
  go : ∀ i H, Same Hb H → i < ds.length → J.go i H
  stop : ∀ i H, Same Hb H → ds.length ≤ i → J.stop i H
  yld : ∀ i H x H' Hg d, Same Hb H → Same Hf Hg → Same Hg H → ds[i]? = some d → J.yld i H x H' → ∃ Hg', Gr Hg H Hg' H' ∧ Dp K Hg' x d
theorem Itd.more {K : PySem.W.Frag} {Hb Hf Hb2 Hf2 : Hp} {J : It} {ds : List PyData} (I : Itd K Hb Hf J ds) (h1 : Same Hb Hb2) (h2 : Same Hf Hf2) : Itd K Hb2 Hf2 J ds :=
  ⟨fun i H s h => I.go i H (h1.trans s) h, fun i H s h => I.stop i H (h1.trans s) h, fun i H x H' Hg d s1 s2 s3 e y => I.yld i H x H' Hg d (h1.trans s1) (h2.trans s2) s3 e y⟩
/-- for: what is walked stands still -/
def tDI (K : PySem.W.Frag) (f : Rho → Option (List PyData)) : TI := fun σ H R => ∃ B Hf ρ ds, ER K B Hf H σ ρ ∧ f ρ = some ds ∧ ∀ J Hf' H', Gr Hf H Hf' H' → Itd K Hf' Hf' J ds → R J H'
/-- a comprehension: what is walked may be a slot's own list -/
def tDJ (K : PySem.W.Frag) (f : Rho → Option (List PyData)) : TI := fun σ H R => ∃ B Hf ρ ds, ER K B Hf H σ ρ ∧ f ρ = some ds ∧ ∀ J Hf' H', Gr Hf H Hf' H' → Itd K H' Hf' J ds → R J H'
abbrev DI (X : Cx) (tg e : Expr) (f : Rho → Option (List PyData)) : Prop := PI X tg e (tDI X.K f)
abbrev DJ (X : Cx) (tg e : Expr) (f : Rho → Option (List PyData)) : Prop := PI X tg e (tDJ X.K f)
theorem PI.or {X : Cx} {tg e : Expr} {t u : TI} (h : PI X tg e t) (h' : PI X tg e u) : PI X tg e (fun σ H R => t σ H R ∨ u σ H R) := ⟨fun pins s σ H R I q => by
  rcases q with q | q
  · exact h.run pins s σ H R I q
  · exact h'.run pins s σ H R I q⟩
theorem DI.dj {X : Cx} {tg e : Expr} {f : Rho → Option (List PyData)} (h : DI X tg e f) : DJ X tg e f := pi_mono h fun σ H R q => by
  obtain ⟨B, Hf, ρ, ds, er, hf, k⟩ := q
  exact ⟨B, Hf, ρ, ds, er, hf, fun J Hf' H' g I => k J Hf' H' g (I.more g.fh (Same.refl _))⟩
theorem getE {α : Type} {ds : List α} {i : Nat} (h : i < ds.length) : ds[i]? = some ds[i] := List.getElem?_eq_getElem h
theorem itd_list {K : PySem.W.Frag} {Hb Hf : Hp} {a : Addr} {vs : List V} {ds : List PyData} (h : SqL K Hb a vs) (hd : DpAll K Hf vs ds) : Itd K Hb Hf (Itl K a) ds where
  go := fun i H s hi => by
    obtain ⟨v, h1, h2⟩ := dpa_get hd (getE hi)
    exact ⟨vs, v, s.seq h, h1⟩
  stop := fun i H s hi => ⟨vs, s.seq h, by rw [dpa_len hd]; exact hi⟩
  yld := fun i H x H' Hg d s1 s2 s3 e y => by
    obtain ⟨rfl, y⟩ := y
    obtain ⟨v, h1, h2⟩ := dpa_get hd e
    have := y vs (s1.seq h)
    rw [h1] at this
    cases this
    exact ⟨Hg, Gr.refl s3, dp_mono s2 _ _ h2⟩
theorem itd_tup {K : PySem.W.Frag} {Hb Hf : Hp} {a : Addr} {vs : List V} {ds : List PyData} (h : SqT K Hb a vs) (hd : DpAll K Hf vs ds) : Itd K Hb Hf (Itt K a) ds where
  go := fun i H s hi => by
    obtain ⟨v, h1, h2⟩ := dpa_get hd (getE hi)
    exact ⟨vs, v, sqt_mono s h, h1⟩
  stop := fun i H s hi => ⟨vs, sqt_mono s h, by rw [dpa_len hd]; exact hi⟩
  yld := fun i H x H' Hg d s1 s2 s3 e y => by
    obtain ⟨rfl, y⟩ := y
    obtain ⟨v, h1, h2⟩ := dpa_get hd e
    have := y vs (sqt_mono s1 h)
    rw [h1] at this
    cases this
    exact ⟨Hg, Gr.refl s3, dp_mono s2 _ _ h2⟩
def rgD (lo : Int) (n : Nat) : List PyData := (List.range n).map fun i => .int (lo + (i : Nat))
theorem rgD_len (lo : Int) (n : Nat) : (rgD lo n).length = n := by unfold rgD; rw [List.length_map, List.length_range]
theorem itd_range {K : PySem.W.Frag} {Hb Hf : Hp} {lo : Int} {n : Nat} : Itd K Hb Hf (Itr lo n) (rgD lo n) where
  go := fun i H s hi => by rw [rgD_len] at hi; exact hi
  stop := fun i H s hi => by rw [rgD_len] at hi; exact hi
  yld := fun i H x H' Hg d s1 s2 s3 e y => by
    obtain ⟨rfl, rfl⟩ := y
    have hi : i < n := by
      have := (List.getElem?_eq_some_iff.mp e).1
      rw [rgD_len] at this
      exact this
    have e2 : (rgD lo n)[i]? = some (.int (lo + (i : Nat))) := by
      unfold rgD
      rw [List.getElem?_map, List.getElem?_range hi]
      rfl
    rw [e2] at e
    cases e
    exact ⟨Hg, Gr.refl s3, .int _⟩
def enD : Nat → List PyData → List PyData
  | _, [] => []
  | i, d :: ds => .tuple [.int i, d] :: enD (i + 1) ds
theorem enD_len : ∀ (i : Nat) (ds : List PyData), (enD i ds).length = ds.length
  | _, [] => rfl
  | i, d :: ds => by
    show (enD (i + 1) ds).length + 1 = ds.length + 1
    rw [enD_len]
theorem enD_get : ∀ (k : Nat) (ds : List PyData) (i : Nat), (enD k ds)[i]? = (ds[i]?).map fun d => .tuple [.int (((k + i : Nat)) : Int), d]
  | _, [], i => by simp [enD]
  | k, d :: ds, 0 => by simp [enD]
  | k, d :: ds, i + 1 => by
    show (enD (k + 1) ds)[i]? = _
    rw [enD_get (k + 1) ds i]
    have e : k + 1 + i = k + (i + 1) := by omega
    rw [e]
    rfl
/-- enumerate: the pairs are new at each turn, and go with it -/
structure ItdE (K : PySem.W.Frag) (Hf : Hp) (J : It) (ds : List PyData) : Prop where
  go : ∀ i H, Same Hf H → i < ds.length → J.go i H
  stop : ∀ i H, Same Hf H → ds.length ≤ i → J.stop i H
  yld : ∀ i H x H' Hg d, Same Hf Hg → Same Hg H → ds[i]? = some d → J.yld i H x H' → Gr Hg H Hg H' ∧ ∃ T vs, x = .ref T ∧ SqT K H' T vs ∧ DpAll K Hg vs [.int (i : Nat), d]
theorem itd_enum {K : PySem.W.Frag} {Hf : Hp} {a : Addr} {vs : List V} {ds : List PyData} (h : SqL K Hf a vs) (hd : DpAll K Hf vs ds) : ItdE K Hf (Ite K a) ds where
  go := fun i H s hi => by
    obtain ⟨v, h1, h2⟩ := dpa_get hd (getE hi)
    exact ⟨vs, v, s.seq h, h1⟩
  stop := fun i H s hi => ⟨vs, s.seq h, by rw [dpa_len hd]; exact hi⟩
  yld := fun i H x H' Hg d s1 s2 e y => by
    obtain ⟨T, y, rfl, hT, rfl, yy⟩ := y
    obtain ⟨v, h1, h2⟩ := dpa_get hd e
    have ev : v = y := by
      have q := yy vs ((s1.trans s2).seq h)
      rw [h1] at q
      exact Option.some.inj q
    subst ev
    exact ⟨Gr.newU s2 hT, T, _, rfl, SqT.of upd_same, .cons (.int _) (.cons (dp_mono s1 _ _ h2) .nil)⟩

section
variable {X : Cx} {tg a b c e : Expr} {es : List Expr} {fa fb fc : FE} {fs : FA} {pos : Pos}
/-- the items of a result: of one that stands still (or may be made to), of any -/
def itF (f : FE) : Rho → Option (List PyData) := fun ρ => (f ρ).bind fun r => match r with
  | .fz (.list xs) => some xs
  | .fz (.tuple xs) => some xs
  | .nw xs => some xs
  | _ => none
def itR (f : FE) : Rho → Option (List PyData) := fun ρ => (f ρ).bind fun r => match r.rd with
  | .list xs => some xs
  | .tuple xs => some xs
  | _ => none
theorem i_seq (ha : DE X e fa) : DI X tg e (itF fa) := pi_mono (PI.or (pi_list ha) (pi_tup ha)) fun σ H R q => by
  obtain ⟨B, Hf, ρ, ds, er, hf, k⟩ := q
  unfold itF at hf
  obtain ⟨r, h1, h2⟩ := Option.bind_eq_some_iff.mp hf
  split at h2
  · cases h2
    refine .inl ⟨B, Hf, ρ, _, er, h1, fun v Hf' H' g q => ?_⟩
    have q' : Dp X.K Hf' v (.list _) := q
    cases q' with
    | lst hs hd => exact ⟨_, rfl, ⟨_, g.fh.seq hs⟩, k _ _ _ g (itd_list hs hd)⟩
  · cases h2
    refine .inr ⟨B, Hf, ρ, _, er, h1, fun v Hf' H' g q => ?_⟩
    obtain ⟨p, vs, rfl, s1, d1⟩ := q.tup rfl
    exact ⟨p, rfl, ⟨vs, sqt_mono g.fh s1⟩, k _ _ _ g (itd_tup s1 d1)⟩
  · cases h2
    refine .inl ⟨B, Hf, ρ, _, er, h1, fun v Hf' H' g q => ?_⟩
    obtain ⟨Hf2, g2, s2, d2⟩ := q.freeze er g rfl
    cases d2 with
    | lst hs hd => exact ⟨_, rfl, ⟨_, g2.fh.seq hs⟩, k _ _ _ g2 (itd_list hs hd)⟩
  · cases h2
theorem j_seq (ha : DE X e fa) : DJ X tg e (itR fa) := pi_mono (PI.or (pi_list ha) (pi_tup ha)) fun σ H R q => by
  obtain ⟨B, Hf, ρ, ds, er, hf, k⟩ := q
  unfold itR at hf
  obtain ⟨r, h1, h2⟩ := Option.bind_eq_some_iff.mp hf
  split at h2
  · rename_i hr
    cases h2
    refine .inl ⟨B, Hf, ρ, _, er, h1, fun v Hf' H' g q => ?_⟩
    obtain ⟨p, vs, rfl, s1, d1⟩ := q.lst g.fh hr
    exact ⟨p, rfl, ⟨_, s1⟩, k _ _ _ g (itd_list s1 d1)⟩
  · rename_i hr
    cases h2
    refine .inr ⟨B, Hf, ρ, _, er, h1, fun v Hf' H' g q => ?_⟩
    obtain ⟨p, vs, rfl, s1, d1⟩ := q.tup hr
    exact ⟨p, rfl, ⟨vs, sqt_mono g.fh s1⟩, k _ _ _ g (itd_tup (sqt_mono g.fh s1) d1)⟩
  · cases h2
def rg1 (fs : FA) : Rho → Option (List PyData) := fun ρ => (fs ρ).bind fun rs => match rs.map Res.rd with
  | [.int j] => if -(2 ^ 62) ≤ j ∧ j < 2 ^ 62 then some (rgD 0 j.toNat) else none
  | _ => none
def rg2 (fs : FA) : Rho → Option (List PyData) := fun ρ => (fs ρ).bind fun rs => match rs.map Res.rd with
  | [.int i, .int j] => if -(2 ^ 62) ≤ i ∧ i < 2 ^ 62 ∧ -(2 ^ 62) ≤ j ∧ j < 2 ^ 62 then some (rgD i (j - i).toNat) else none
  | _ => none
theorem i_rg1 {p : Pos} (hm : X.mg "range" = none) (ha : DA X [a] fs) (hg : Gl X "range" := by rfl) (hs : starEach [a] X.env = [(false, eval a X.env)] := by rfl) : DI X tg (.Call (.Name "range" p) [a] [] pos) (rg1 fs) := pi_mono (pi_range1 hg hm ha hs) fun σ H R q => by
  obtain ⟨B, Hf, ρ, ds, er, hf, k⟩ := q
  unfold rg1 at hf
  obtain ⟨rs, h1, h2⟩ := Option.bind_eq_some_iff.mp hf
  split at h2
  · rename_i j hj
    split at h2
    · rename_i hz
      cases h2
      refine ⟨B, Hf, ρ, rs, er, h1, fun vs Hf' H' g q => ?_⟩
      obtain ⟨v, r, rfl, rfl, hr, q1⟩ := q.one hj
      cases q1.int hr
      exact ⟨j, rfl, hz.1, hz.2, k _ _ _ g itd_range⟩
    · cases h2
  · cases h2
theorem i_rg2 {p : Pos} (hm : X.mg "range" = none) (ha : DA X [a, b] fs) (hg : Gl X "range" := by rfl) (hs : starEach [a, b] X.env = [(false, eval a X.env), (false, eval b X.env)] := by rfl) (hs2 : starEach [b] X.env = [(false, eval b X.env)] := by rfl) : DI X tg (.Call (.Name "range" p) [a, b] [] pos) (rg2 fs) := pi_mono (pi_range2 hg hm ha hs hs2) fun σ H R q => by
  obtain ⟨B, Hf, ρ, ds, er, hf, k⟩ := q
  unfold rg2 at hf
  obtain ⟨rs, h1, h2⟩ := Option.bind_eq_some_iff.mp hf
  split at h2
  · rename_i i j hj
    split at h2
    · rename_i hz
      cases h2
      refine ⟨B, Hf, ρ, rs, er, h1, fun vs Hf' H' g q => ?_⟩
      obtain ⟨v, r, w, s, rfl, rfl, e1, e2, q1, q2⟩ := q.two hj
      cases q1.int e1
      cases q2.int e2
      exact ⟨i, j, rfl, hz, k _ _ _ g itd_range⟩
    · cases h2
  · cases h2
def enF (fs : FA) : Rho → Option (List PyData) := fun ρ => (fs ρ).bind fun rs => match rs with
  | [.fz (.list xs)] => some (enD 0 xs)
  | [.nw xs] => some (enD 0 xs)
  | _ => none
def tDIE (K : PySem.W.Frag) (f : FA) : TI := fun σ H R => ∃ B Hf ρ ds, ER K B Hf H σ ρ ∧ enF f ρ = some (enD 0 ds) ∧ ∀ J Hf' H', Gr Hf H Hf' H' → ItdE K Hf' J ds → R J H'
theorem i_enum {p tpos : Pos} {elts : List Expr} {kk : Nat} (hm : X.mg "enumerate" = none) (ha : DA X [e] fs) (hg : Gl X "enumerate" := by rfl) (hs : starEach [e] X.env = [(false, eval e X.env)] := by rfl) :
    PI X (.Tuple elts kk tpos) (.Call (.Name "enumerate" p) [e] [] pos) (tDIE X.K fs) := pi_mono (pi_enum hg hm ha hs) fun σ H R q => by
  obtain ⟨B, Hf, ρ, ds, er, hf, k⟩ := q
  unfold enF at hf
  obtain ⟨rs, h1, h2⟩ := Option.bind_eq_some_iff.mp hf
  have inj : ∀ {xs : List PyData} {j : Nat} {ys : List PyData}, enD j xs = enD j ys → xs = ys := fun {xs} => by
    induction xs with
    | nil => intro j ys e; cases ys with
      | nil => rfl
      | cons y ys => cases e
    | cons x xs ih => intro j ys e; cases ys with
      | nil => cases e
      | cons y ys =>
        injection e with e1 e2
        injection e1 with e1
        injection e1 with _ e1
        injection e1 with e1 _
        rw [e1, ih e2]
  split at h2
  · rename_i xs
    have e := inj (Option.some.inj h2)
    subst e
    refine ⟨B, Hf, ρ, _, er, h1, fun vs Hf' H' g q => ?_⟩
    cases q with
    | cons q t =>
      cases t
      have q' : Dp X.K Hf' _ (.list _) := q
      cases q' with
      | lst hs hd => exact ⟨_, _, rfl, g.fh.seq hs, k _ _ _ g (itd_enum hs hd)⟩
  · rename_i xs
    have e := inj (Option.some.inj h2)
    subst e
    refine ⟨B, Hf, ρ, _, er, h1, fun vs Hf' H' g q => ?_⟩
    cases q with
    | cons q t =>
      cases t
      obtain ⟨Hf2, g2, s2, d2⟩ := q.freeze er g rfl
      cases d2 with
      | lst hs hd => exact ⟨_, _, rfl, g2.fh.seq hs, k _ _ _ g2 (itd_enum hs hd)⟩
  · cases h2
end

/-! ### targets: names, tuples of names -/
abbrev FU := PyData → Rho → Option Rho
def tDG (K : PySem.W.Frag) (u : FU) : TG := fun v σ H Q => ∃ B Hf ρ d ρ', ER K B Hf H σ ρ ∧ Dp K Hf v d ∧ u d ρ = some ρ' ∧ ∀ σ', ER K B Hf H σ' ρ' → Q σ' H
abbrev DG (X : Cx) (e : Expr) (u : FU) : Prop := PG X e (tDG X.K u)
theorem ER.set {K : PySem.W.Frag} {B Hf H : Hp} {σ : L2.St} {ρ : Rho} {v : V} {d : PyData} (er : ER K B Hf H σ ρ) (i : Nat) (h : Dp K Hf v d) : ER K B Hf H (σ.set i (some v)) (ρ.set i (.d d)) := by
  refine ⟨er.fh, er.bh, by rw [List.length_set, List.length_set]; exact er.len, fun j s o h1 h2 => ?_, er.bn, fun j k xs ys p hjk h1 h2 h3 h4 => ?_⟩
  · by_cases z : i = j
    · subst z
      by_cases hi : i < ρ.length
      · rw [List.getElem?_set_self hi] at h1
        rw [List.getElem?_set_self (by rw [er.len]; exact hi)] at h2
        cases h1; cases h2
        exact ⟨v, rfl, h⟩
      · rw [List.getElem?_eq_none (by rw [List.length_set]; omega)] at h1
        cases h1
    · rw [List.getElem?_set_ne z] at h1 h2
      exact er.sl j s o h1 h2
  · have nj : ∀ {j : Nat} {xs : List PyData}, (ρ.set i (Slot.d d))[j]? = some (.own xs) → i ≠ j := fun {j xs} q z => by
      subst z
      by_cases hi : i < ρ.length
      · rw [List.getElem?_set_self hi] at q; cases q
      · rw [List.getElem?_eq_none (by rw [List.length_set]; omega)] at q; cases q
    have n1 := nj h1
    have n2 := nj h2
    rw [List.getElem?_set_ne n1] at h1 h3
    rw [List.getElem?_set_ne n2] at h2 h4
    exact er.dj j k xs ys p hjk h1 h2 h3 h4
def uName (i : Nat) : FU := fun d ρ => some (ρ.set i (.d d))
section
variable {X : Cx} {e : Expr} {es : List Expr} {pos : Pos} {u : FU}
theorem g_name {x : Str} (i : Nat) (hN : X.N.Nodup) (hi : X.N[i]? = some x := by rfl) (hx : Loc X.env.scope x := by first | exact Or.inl rfl | exact Or.inr rfl) (hf : X.fn x = true ∨ X.env.scope.names.lookup x = some .local := by first | exact .inl rfl | exact .inr rfl | assumption) : DG X (.Name x pos) (uName i) := pg_mono (pg_name (i := i) hN hi hx hf) fun v σ H Q h => by
  obtain ⟨B, Hf, ρ, d, ρ', er, hd, hu, k⟩ := h
  cases hu
  exact k _ (er.set i hd)
abbrev FUs := List PyData → Rho → Option Rho
def tDGs (K : PySem.W.Frag) (u : FUs) : TGs := fun vs σ H Q => ∃ B Hf ρ ds ρ', ER K B Hf H σ ρ ∧ DpAll K Hf vs ds ∧ u ds ρ = some ρ' ∧ ∀ σ', ER K B Hf H σ' ρ' → Q σ' H
abbrev DGs (X : Cx) (es : List Expr) (u : FUs) : Prop := PGs X es (tDGs X.K u)
theorem pgs_mono {X : Cx} {e : List Expr} {t t' : TGs} (h : PGs X e t) (k : ∀ v σ H Q, t' v σ H Q → t v σ H Q) : PGs X e t' := ⟨fun pins s σ H v u Q I r q => h.run pins s σ H v u Q I r (k _ _ _ _ q)⟩
def uNil : FUs := fun ds ρ => match ds with
  | [] => some ρ
  | _ => none
def uCons (u : FU) (us : FUs) : FUs := fun ds ρ => match ds with
  | d :: r => (u d ρ).bind fun ρ1 => us r ρ1
  | _ => none
theorem gs_nil : DGs X [] uNil := pgs_mono pgs_nil fun v σ H Q h => by
  obtain ⟨B, Hf, ρ, d, ρ', er, hd, hu, k⟩ := h
  unfold uNil at hu
  split at hu
  · cases hu
    cases hd
    exact ⟨rfl, k _ er⟩
  · cases hu
theorem gs_cons {us : FUs} (h1 : DG X e u) (h2 : DGs X es us) (hs : (assignEach (e :: es) X.env).map (·.2) = assign e X.env :: (assignEach es X.env).map (·.2) := by rfl) : DGs X (e :: es) (uCons u us) := pgs_mono (pgs_cons h1 h2 hs) fun v σ H Q h => by
  obtain ⟨B, Hf, ρ, d, ρ', er, hd, hu, k⟩ := h
  unfold uCons at hu
  split at hu
  · cases hd with
    | cons a t =>
      obtain ⟨ρ1, e1, e2⟩ := Option.bind_eq_some_iff.mp hu
      exact ⟨_, _, rfl, B, Hf, ρ, _, ρ1, er, a, e1, fun σ' er' => ⟨B, Hf, ρ1, _, ρ', er', t, e2, k⟩⟩
  · cases hu
/-- (a, b, ..) = a tuple or a list of that length -/
def uTup (n : Nat) (us : FUs) : FU := fun d ρ => match d with
  | .tuple ds => if ds.length = n then us ds ρ else none
  | .list ds => if ds.length = n then us ds ρ else none
  | _ => none
theorem PG.or {X : Cx} {e : Expr} {t u : TG} (h : PG X e t) (h' : PG X e u) : PG X e (fun v σ H Q => t v σ H Q ∨ u v σ H Q) := ⟨fun pins s σ H v w Q I r q => by
  rcases q with q | q
  · exact h.run pins s σ H v w Q I r q
  · exact h'.run pins s σ H v w Q I r q⟩
def tDGt (K : PySem.W.Frag) (u : FU) : TG := fun v σ H Q => ∃ B Hf ρ ds ρ' a vs, ER K B Hf H σ ρ ∧ v = .ref a ∧ SqT K H a vs ∧ DpAll K Hf vs ds ∧ u (.tuple ds) ρ = some ρ' ∧ ∀ σ', ER K B Hf H σ' ρ' → Q σ' H
theorem g_tupT {k : Nat} {n : Nat} {us : FUs} (h : DGs X es us) (hc : X.calm = true := by rfl) (hn : (assignEach es X.env).length = n := by rfl) (hst : (assignEach es X.env).findIdx? (·.1) = none := by rfl) : PG X (.Tuple es k pos) (tDGt X.K (uTup n us)) := pg_mono (pg_tup hc h hn hst) fun v σ H Q h => by
  obtain ⟨B, Hf, ρ, ds, ρ', a, vs, er, rfl, hs, hd, hu, k⟩ := h
  unfold uTup at hu
  simp only at hu
  split at hu
  · rename_i hl
    exact ⟨a, vs, rfl, hs, by rw [dpa_len hd]; exact hl, B, Hf, ρ, ds, ρ', er, hd, hu, k⟩
  · cases hu
theorem g_tup {k : Nat} {n : Nat} {us : FUs} (h : DGs X es us) (hc : X.calm = true := by rfl) (hn : (assignEach es X.env).length = n := by rfl) (hst : (assignEach es X.env).findIdx? (·.1) = none := by rfl) : DG X (.Tuple es k pos) (uTup n us) := pg_mono (PG.or (pg_tup hc h hn hst) (pg_unl hc h hn hst)) fun v σ H Q h => by
  obtain ⟨B, Hf, ρ, d, ρ', er, hd, hu, k⟩ := h
  unfold uTup at hu
  split at hu
  · split at hu
    · rename_i hl
      cases hd with
      | tup hs ha => exact .inl ⟨_, _, rfl, sqt_mono er.fh hs, by rw [dpa_len ha]; exact hl, B, Hf, ρ, _, ρ', er, ha, hu, k⟩
    · cases hu
  · split at hu
    · rename_i hl
      cases hd with
      | lst hs ha => exact .inr ⟨_, _, rfl, er.fh.seq hs, by rw [dpa_len ha]; exact hl, B, Hf, ρ, _, ρ', er, ha, hu, k⟩
    · cases hu
  · cases hu
end

/-! ### comprehensions -/
def wipeR (ρ : Rho) : List Nat → Rho
  | [] => ρ
  | v :: vs => (wipeR ρ vs).set v .und
theorem ER.wipe {K : PySem.W.Frag} {B Hf H : Hp} {σ : L2.St} {ρ : Rho} (er : ER K B Hf H σ ρ) : ∀ vs : List Nat, ER K B Hf H (L2.wipe σ vs) (wipeR ρ vs)
  | [] => er
  | v :: vs => by
    have ih := er.wipe vs
    unfold L2.wipe wipeR
    refine ⟨ih.fh, ih.bh, by rw [List.length_set, List.length_set]; exact ih.len, fun j s o h1 h2 => ?_, ih.bn, fun j k xs ys p hjk h1 h2 h3 h4 => ?_⟩
    · by_cases z : v = j
      · subst z
        by_cases hi : v < (wipeR ρ vs).length
        · rw [List.getElem?_set_self hi] at h1
          cases h1
          trivial
        · rw [List.getElem?_eq_none (by rw [List.length_set]; omega)] at h1
          cases h1
      · rw [List.getElem?_set_ne z] at h1 h2
        exact ih.sl j s o h1 h2
    · have nj : ∀ {j : Nat} {xs : List PyData}, ((wipeR ρ vs).set v Slot.und)[j]? = some (.own xs) → v ≠ j := fun {j xs} q z => by
        subst z
        by_cases hi : v < (wipeR ρ vs).length
        · rw [List.getElem?_set_self hi] at q; cases q
        · rw [List.getElem?_eq_none (by rw [List.length_set]; omega)] at q; cases q
      have n1 := nj h1
      have n2 := nj h2
      rw [List.getElem?_set_ne n1] at h1 h3
      rw [List.getElem?_set_ne n2] at h2 h4
      exact ih.dj j k xs ys p hjk h1 h2 h3 h4
def lcD (j : Nat) (c : Rho → Option Bool) (e : FE) (ρ : Rho) : List PyData → Option (List PyData)
  | [] => some []
  | x :: xs => (c (ρ.set j (.d x))).bind fun b => if b = true then (e (ρ.set j (.d x))).bind fun r => r.fr.bind fun d => (lcD j c e ρ xs).map fun ds => d :: ds else lcD j c e ρ xs
theorem lcD_len {j : Nat} {c : Rho → Option Bool} {e : FE} {ρ : Rho} : ∀ {xs ds : List PyData}, lcD j c e ρ xs = some ds → ds.length ≤ xs.length
  | [], _, h => by cases h; exact Nat.le_refl _
  | x :: xs, _, h => by
    unfold lcD at h
    obtain ⟨b, h1, h⟩ := Option.bind_eq_some_iff.mp h
    split at h
    · obtain ⟨r, h2, h⟩ := Option.bind_eq_some_iff.mp h
      obtain ⟨d, h3, h⟩ := Option.bind_eq_some_iff.mp h
      obtain ⟨ds, h4, h⟩ := Option.map_eq_some_iff.mp h
      subst h
      exact Nat.succ_le_succ (lcD_len h4)
    · exact Nat.le_succ_of_le (lcD_len h)
def fLc (it : Rho → Option (List PyData)) (j : Nat) (c : Rho → Option Bool) (e : FE) (vs : List Nat) : FE := fun ρ => (it ρ).bind fun xs => if small xs.length then (lcD j c e (wipeR ρ vs) xs).map fun ds => .nw ds else none
theorem lc_ent {K : PySem.W.Frag} {it : Rho → Option (List PyData)} {j : Nat} {c : Rho → Option Bool} {e : FE} : ∀ σ H Q, tD K (fLc it j c e [j]) σ H Q → tLc (tDJ K it) (gName j) (tDT K c) (tD K e) [j] σ H Q := fun σ H Q h => by
  obtain ⟨B, Hf, ρ, r, er, hf, k⟩ := h
  unfold fLc at hf
  obtain ⟨xs, h1, h2⟩ := Option.bind_eq_some_iff.mp hf
  split at h2
  · rename_i hz
    obtain ⟨ds, h3, h4⟩ := Option.map_eq_some_iff.mp h2
    subst h4
    refine ⟨B, Hf, ρ, xs, er, h1, fun J Hf1 H1 g1 I1 D hD => ?_⟩
    have er1 : ER K B Hf1 H1 (L2.wipe σ [j]) (wipeR ρ [j]) := (er.grow g1).wipe [j]
    let P : Nat → Hp → Prop := fun i H2 => ∃ Hg vs acc, Same Hf1 Hg ∧ Same H1 H2 ∧ Same Hg H2 ∧ (∀ a o, H1 a = some o → Hf1 a = none → Hg a = none) ∧ Bn Hg ∧ Hg D = none ∧ H2 D = some (.lst vs) ∧ DpAll K Hg vs acc ∧ acc.length ≤ i ∧ ∃ rest, lcD j c e (wipeR ρ [j]) (xs.drop i) = some rest ∧ acc ++ rest = ds
    refine ⟨fun i m H2 => m = xs.length - i ∧ i ≤ xs.length ∧ P i H2, ⟨xs.length, by simp, Nat.zero_le _, Hf1, [], [], Same.refl _, same_upd hD, g1.fh.trans (same_upd hD), fun a o _ n => n, (er.grow g1).bn, g1.fh.free hD, upd_same, .nil, Nat.le_refl _, ds, by rw [List.drop_zero]; exact h3, rfl⟩, ?_⟩
    rintro i m H2 ⟨rfl, hi, Hg, vs, acc, s1, s2, s3, un, bn, gD, hDv, da, hacc, rest, hl, ha⟩
    by_cases hlt : i < xs.length
    · refine .inr ⟨I1.go i H2 s2 hlt, P (i + 1), fun H' p => ⟨xs.length - (i + 1), by omega, rfl, hlt, p⟩, fun x H3 y => ?_⟩
      obtain ⟨Hg3, g3, dx⟩ := I1.yld i H2 x H3 Hg xs[i] s2 s1 s3 (getE hlt) y
      have gBase : Gr Hg H2 Hg3 H3 := g3
      -- the frame's own slots at this heap
      have erA : ER K B Hg3 H3 (L2.wipe σ [j]) (wipeR ρ [j]) := er1.grow ⟨s1.trans g3.f, s2.trans g3.h, g3.fh, fun a o q n => g3.un a o (s2 _ _ q) (un a o q n), fun _ => g3.bn bn⟩
      have erB := erA.set j dx
      refine ⟨?_, ?_⟩
      · show (((σ.set j none).set j (some x)).set j none) = σ.set j none
        rw [List.set_set, List.set_set]
      · rw [List.drop_eq_getElem_cons hlt] at hl
        unfold lcD at hl
        obtain ⟨bb, hb, hl⟩ := Option.bind_eq_some_iff.mp hl
        refine ⟨B, Hg3, _, bb, erB, hb, fun Hg4 H4 g4 => ?_⟩
        have D3 : H3 D = some (.lst vs) := g3.h _ _ hDv
        have gD3 : Hg3 D = none := g3.un D _ hDv gD
        have D4 : H4 D = some (.lst vs) := g4.h _ _ D3
        have gD4 : Hg4 D = none := g4.un D _ D3 gD3
        cases bb with
        | false =>
          have hl' : lcD j c e (wipeR ρ [j]) (xs.drop (i + 1)) = some rest := by simpa using hl
          show P (i + 1) H4
          refine ⟨Hg4, vs, acc, (s1.trans g3.f).trans g4.f, (s2.trans g3.h).trans g4.h, g4.fh, fun a o q n => g4.un a o (g3.h _ _ (s2 _ _ q)) (g3.un a o (s2 _ _ q) (un a o q n)), g4.bn (g3.bn bn), gD4, D4, dpa_mono (g3.f.trans g4.f) _ _ da, Nat.le_succ_of_le hacc, rest, hl', ha⟩
        | true =>
          rw [if_pos rfl] at hl
          obtain ⟨r5, h5, hl⟩ := Option.bind_eq_some_iff.mp hl
          obtain ⟨d5, h6, hl⟩ := Option.bind_eq_some_iff.mp hl
          obtain ⟨ds5, h7, hl⟩ := Option.map_eq_some_iff.mp hl
          refine ⟨B, Hg4, _, r5, erB.grow g4, h5, fun y5 Hg5 H5 g5 q5 => ?_⟩
          obtain ⟨Hg6, g6, s6, d6⟩ := q5.freeze (erB.grow g4) g5 h6
          have D5 : H5 D = some (.lst vs) := g6.h _ _ D4
          have gD6 : Hg6 D = none := g6.un D _ D4 gD4
          have lv := dpa_len da
          refine ⟨vs, D5, Nat.lt_of_le_of_lt (by omega : vs.length ≤ xs.length) (Nat.lt_of_le_of_lt hz (by decide)), ?_⟩
          have H1D : ∀ a o, H1 a = some o → a ≠ D := fun a o q z => by rw [z, hD] at q; cases q
          refine ⟨Hg6, vs ++ [y5], acc ++ [d5], ((s1.trans g3.f).trans g4.f).trans g6.f, fun a o q => ?_, fun a o q => ?_, fun a o q n => g6.un a o (g4.h _ _ (g3.h _ _ (s2 _ _ q))) (g4.un a o (g3.h _ _ (s2 _ _ q)) (g3.un a o (s2 _ _ q) (un a o q n))), g6.bn (g4.bn (g3.bn bn)), gD6, upd_same, dpa_app (dpa_mono ((g3.f.trans g4.f).trans g6.f) _ _ da) (.cons d6 .nil), ?_, ds5, h7, ?_⟩
          · rw [upd_ne (H1D a o q)]
            exact g6.h _ _ (g4.h _ _ (g3.h _ _ (s2 _ _ q)))
          · have nD : a ≠ D := fun z => by rw [z, gD6] at q; cases q
            rw [upd_ne nD]
            exact g6.fh _ _ q
          · rw [List.length_append, List.length_singleton]; omega
          · rw [List.append_assoc, ← ha, ← hl]
            rfl
    · have ei : i = xs.length := by omega
      subst ei
      refine .inl ⟨I1.stop _ H2 s2 (Nat.le_refl _), ?_⟩
      rw [List.drop_length] at hl
      cases hl
      rw [List.append_nil] at ha
      subst ha
      have gT : Gr Hf1 H1 Hg H2 := ⟨s1, s2, s3, un, fun _ => bn⟩
      exact k _ _ _ (g1.trans gT) ⟨D, vs, rfl, g1.h.free hD, gD, hDv, da⟩
  · cases h2
section
variable {X : Cx} {a b c e elt tg iter : Expr} {fa fb fc : FE} {pos : Pos} {it : Rho → Option (List PyData)} {ct : Rho → Option Bool} {scope : Scope} {x : Str} {ifs : List Expr}
def cYes : Rho → Option Bool := fun _ => some true
abbrev DTs (X : Cx) (ifs : List Expr) (f : Rho → Option Bool) : Prop := PTs X ifs (tDT X.K f)
theorem ts_nil : DTs X [] cYes := ⟨fun pins s σ H Q I h => pts_nil.run pins s σ H Q I (by
  obtain ⟨B, Hf, ρ, b, er, hf, k⟩ := h
  cases hf
  exact k _ _ (Gr.refl er.fh))⟩
theorem ts_one {c : Expr} (h : DT X c ct) : DTs X [c] ct := pts_one h
theorem d_lc (j : Nat) (x : Str) (hN : X.N.Nodup) (hi : DJ X tg iter it) (ok : blkC X.N X.env.scope scope [(x, j)] = true)
    (hg : ∀ (s : Shared) (H : Hp) (C : Addr) (cl : List (Str × Addr)) (fp : List Addr), PG (X.blk s H scope (compEnvC scope cl C X.env) fp) tg (gName j))
    (ht : ∀ (s : Shared) (H : Hp) (C : Addr) (cl : List (Str × Addr)) (fp : List Addr), DTs (X.blk s H scope (compEnvC scope cl C X.env) fp) ifs ct)
    (he : ∀ (s : Shared) (H : Hp) (C : Addr) (cl : List (Str × Addr)) (fp : List Addr), DE (X.blk s H scope (compEnvC scope cl C X.env) fp) elt fa) (hc : X.calm = true := by rfl) (hs : ∀ x, foldedSetIterable iter X.env x = pure x := by intro _; rfl) :
    DE X (.ListComp elt [⟨tg, iter, ifs, 0⟩] scope pos) (fLc it j ct fa [j]) := pe_mono (pe_lc (own := [(x, j)]) hc hN hi (blkOk_by ok) hg ht he hs) lc_ent
end
end DL
namespace DL
open PySem PySem.Spec PyProof.Rows L2

inductive Out where
  | nx (ρ : Rho)
  | rt (d : PyData)
  | bk (ρ : Rho)
  | ct (ρ : Rho)
  | ex (x : Str) (ρ : Rho)
abbrev FS := Rho → Option Out
structure GB (B Hf Hf' : Hp) : Prop where
  f : Same Hf Hf'
  un : ∀ a o, B a = some o → Hf a = none → Hf' a = none
  bn : Bn Hf → Bn Hf'
theorem GB.refl {B Hf : Hp} : GB B Hf Hf := ⟨Same.refl _, fun _ _ _ n => n, fun b => b⟩
theorem GB.trans {B Hf H1 H2 : Hp} (a : GB B Hf H1) (b : GB B H1 H2) : GB B Hf H2 := ⟨a.f.trans b.f, fun x o e n => b.un x o e (a.un x o e n), fun z => b.bn (a.bn z)⟩
theorem Gr.gb {B Hf H Hf' H' : Hp} (g : Gr Hf H Hf' H') (bh : Same B H) : GB B Hf Hf' := ⟨g.f, fun a o e n => g.un a o (bh _ _ e) n, g.bn⟩
/-- an own error's class, by its name; the widest wish that the context takes -/
def WgX (X : Cx) : WX := fun cls d σ H => ∀ u s', XE X (fun c e σ' H' => c = cls ∧ e = d ∧ σ' = σ ∧ H' = H) u s' → X.xe u s'
theorem takesW {X : Cx} : Takes X (WgX X) := fun u s' ⟨a, B, sI, pins, σ, H, cls, d, e, I, nb, up, sky, na, os, ag, w⟩ => w u s' ⟨a, B, sI, pins, σ, H, cls, d, e, I, nb, up, sky, na, os, ag, rfl, rfl, rfl, rfl⟩
theorem wgx_of {X : Cx} {W : WX} {cls : Value} {d : Option Addr} {σ : L2.St} {H : Hp} (t : Takes X W) (w : W cls d σ H) : WgX X cls d σ H := fun u s' ⟨a, B, sI, pins, σ', H', cls', d', e, I, nb, up, sky, na, os, ag, e1, e2, e3, e4⟩ => by
  subst e1 e2 e3 e4
  exact t u s' ⟨a, B, sI, pins, _, _, _, _, e, I, nb, up, sky, na, os, ag, w⟩
def Fin (K : PySem.W.Frag) (mg : Str → Option Value) (W : WX) (B Hf : Hp) (D : Ends) : Out → Prop
  | .nx ρ' => ∀ σ' Hf' H', GB B Hf Hf' → ER K B Hf' H' σ' ρ' → D.nx σ' H'
  | .rt d => ∀ v Hf' H', GB B Hf Hf' → Same Hf' H' → Same B H' → Dp K Hf' v d → D.rt v H'
  | .bk ρ' => ∀ σ' Hf' H', GB B Hf Hf' → ER K B Hf' H' σ' ρ' → D.bk σ' H'
  | .ct ρ' => ∀ σ' Hf' H', GB B Hf Hf' → ER K B Hf' H' σ' ρ' → D.ct σ' H'
  | .ex x ρ' => ∀ C σ' Hf' H', mg x = some (.ref C) → GB B Hf Hf' → ER K B Hf' H' σ' ρ' → W (.ref C) none σ' H'
theorem Fin.more {K : PySem.W.Frag} {mg : Str → Option Value} {W : WX} {B Hf Hf1 : Hp} {D : Ends} {o : Out} (h : Fin K mg W B Hf D o) (g : GB B Hf Hf1) : Fin K mg W B Hf1 D o := by
  cases o with
  | nx ρ => exact fun σ' Hf' H' g' er => h σ' Hf' H' (g.trans g') er
  | rt d => exact fun v Hf' H' g' e1 e2 dp => h v Hf' H' (g.trans g') e1 e2 dp
  | bk ρ => exact fun σ' Hf' H' g' er => h σ' Hf' H' (g.trans g') er
  | ct ρ => exact fun σ' Hf' H' g' er => h σ' Hf' H' (g.trans g') er
  | ex x ρ => exact fun C σ' Hf' H' e g' er => h C σ' Hf' H' e (g.trans g') er
def tDS (K : PySem.W.Frag) (mg : Str → Option Value) (W : WX) (g : FS) : TS := fun D σ H => ∃ B Hf ρ o, ER K B Hf H σ ρ ∧ g ρ = some o ∧ Fin K mg W B Hf D o
abbrev DS (X : Cx) (st : Stmt) (g : FS) : Prop := PS X st (tDS X.K X.mg (WgX X) g)
abbrev DSs (X : Cx) (st : List Stmt) (g : FS) : Prop := PSs X st (tDS X.K X.mg (WgX X) g)

section
variable {X : Cx} {a b c e tg iter : Expr} {es : List Expr} {st : Stmt} {rest : List Stmt} {fa fb fc : FE} {fs : FA} {pos : Pos} {g g1 g2 : FS} {t : Rho → Option Bool}
def gNil : FS := fun ρ => some (.nx ρ)
def gSeq (g1 g2 : FS) : FS := fun ρ => (g1 ρ).bind fun o => match o with
  | .nx ρ' => g2 ρ'
  | o => some o
theorem tds_next {K : PySem.W.Frag} {mg : Str → Option Value} {W : WX} {D : Ends} {σ : L2.St} {H : Hp} (h : tDS K mg W gNil D σ H) : D.nx σ H := by
  obtain ⟨B, Hf, ρ, o, er, hg, k⟩ := h
  cases hg
  exact k σ Hf H GB.refl er
theorem ss_nil : DSs X [] gNil := pss_mono pss_nil fun D σ H h => tds_next h
theorem s_pass : DS X (.Pass pos) gNil := ps_mono ps_pass fun D σ H h => tds_next h
theorem ss_one (h : DS X st g) : DSs X [st] g := pss_one h
theorem ss_cons (h1 : DS X st g1) (h2 : DSs X rest g2) : DSs X (st :: rest) (gSeq g1 g2) := pss_mono (pss_cons h1 h2) fun D σ H h => by
  obtain ⟨B, Hf, ρ, o, er, hg, k⟩ := h
  unfold gSeq at hg
  obtain ⟨o1, e1, e2⟩ := Option.bind_eq_some_iff.mp hg
  refine ⟨B, Hf, ρ, o1, er, e1, ?_⟩
  cases o1 with
  | nx ρ1 => exact fun σ' Hf' H' g' er' => ⟨B, Hf', ρ1, o, er', e2, k.more g'⟩
  | rt d => cases e2; exact k
  | bk ρ1 => cases e2; exact k
  | ct ρ1 => cases e2; exact k
  | ex x ρ1 => cases e2; exact k
def gBk : FS := fun ρ => some (.bk ρ)
def gCt : FS := fun ρ => some (.ct ρ)
theorem s_break : DS X (.Break pos) gBk := ps_mono ps_break fun D σ H h => by
  obtain ⟨B, Hf, ρ, o, er, hg, k⟩ := h
  cases hg
  exact k σ Hf H GB.refl er
theorem s_continue : DS X (.Continue pos) gCt := ps_mono ps_continue fun D σ H h => by
  obtain ⟨B, Hf, ρ, o, er, hg, k⟩ := h
  cases hg
  exact k σ Hf H GB.refl er
/-- any result made to stand still (a slot's own list too: the slots are not asked any more) -/
theorem RR.still {K : PySem.W.Frag} {B Hf H Hf' H' : Hp} {σ : L2.St} {ρ : Rho} {v : V} {r : Res} (er : ER K B Hf H σ ρ) (g : Gr Hf H Hf' H') (q : RR K B H Hf' H' v r) : ∃ Hf2, GB B Hf Hf2 ∧ Same Hf2 H' ∧ Same B H' ∧ Dp K Hf2 v r.rd := by
  have bh := er.bh.trans g.h
  cases r with
  | fz y => exact ⟨Hf', g.gb er.bh, g.fh, bh, q⟩
  | nw ys =>
    obtain ⟨Hf2, g2, s2, d2⟩ := q.freeze er g rfl
    exact ⟨Hf2, g2.gb er.bh, g2.fh, bh, d2⟩
  | br ys =>
    obtain ⟨p, vs, rfl, h3, h4, h5, h6⟩ := q
    refine ⟨upd Hf' p (.lst vs), ⟨g.f.trans (same_upd h3), fun a o e n => ?_, fun b => (g.bn b).upd .lst⟩, fun a o e => ?_, bh, .lst (SqL.of upd_same) (dpa_mono (same_upd h3) _ _ h6)⟩
    · rw [upd_ne (ne_of_none e h4)]; exact g.un a o (er.bh _ _ e) n
    · by_cases z : a = p
      · subst z; rw [upd_same] at e; cases e; exact h5
      · rw [upd_ne z] at e; exact g.fh _ _ e
def gRet (f : FE) : FS := fun ρ => (f ρ).map fun r => .rt r.rd
theorem s_ret (ha : DE X e fa) : DS X (.Return (some e) pos) (gRet fa) := ps_mono (ps_ret ha) fun D σ H h => by
  obtain ⟨B, Hf, ρ, o, er, hg, k⟩ := h
  unfold gRet at hg
  obtain ⟨r, h1, h2⟩ := Option.map_eq_some_iff.mp hg
  subst h2
  refine ⟨B, Hf, ρ, r, er, h1, fun v Hf' H' g' q => ?_⟩
  obtain ⟨Hf2, g2, s1, s2, d⟩ := q.still er g'
  exact k v Hf2 H' g2 s1 s2 d
def gRetN : FS := fun _ => some (.rt .none)
theorem s_retN : DS X (.Return none pos) gRetN := ps_mono ps_retN fun D σ H h => by
  obtain ⟨B, Hf, ρ, o, er, hg, k⟩ := h
  cases hg
  exact k _ Hf H GB.refl er.fh er.bh .non
def gIf (t : Rho → Option Bool) (g1 g2 : FS) : FS := fun ρ => (t ρ).bind fun b => if b = true then g1 ρ else g2 ρ
theorem s_if {p q : List Stmt} (hc : DT X c t) (ha : DSs X p g1) (hb : DSs X q g2) : DS X (.If c p q pos) (gIf t g1 g2) := ps_mono (ps_if hc ha hb) fun D σ H h => by
  obtain ⟨B, Hf, ρ, o, er, hg, k⟩ := h
  unfold gIf at hg
  obtain ⟨bb, h1, h2⟩ := Option.bind_eq_some_iff.mp hg
  refine ⟨B, Hf, ρ, bb, er, h1, fun Hf' H' g' => ?_⟩
  cases bb with
  | true => exact ⟨B, Hf', ρ, o, er.grow g', h2, k.more (g'.gb er.bh)⟩
  | false => exact ⟨B, Hf', ρ, o, er.grow g', h2, k.more (g'.gb er.bh)⟩
def gDrop (f : FE) : FS := fun ρ => (f ρ).map fun _ => .nx ρ
theorem s_expr (ha : DE X e fa) (hs : swapsWith e none pos.line X.env = pure false := by rfl) : DS X (.Expr e pos) (gDrop fa) := ps_mono (ps_expr ha hs) fun D σ H h => by
  obtain ⟨B, Hf, ρ, o, er, hg, k⟩ := h
  unfold gDrop at hg
  obtain ⟨r, h1, h2⟩ := Option.map_eq_some_iff.mp hg
  subst h2
  exact ⟨B, Hf, ρ, r, er, h1, fun v Hf' H' g' q => k σ Hf' H' (g'.gb er.bh) (er.grow g')⟩

/-! ### assignments -/
def gSet (i : Nat) (f : FE) : FS := fun ρ => (f ρ).bind fun r => r.fr.map fun d => .nx (ρ.set i (.d d))
def gSetO (i : Nat) (f : FE) : FS := fun ρ => (f ρ).bind fun r => match r with
  | .nw xs => some (.nx (ρ.set i (.own xs)))
  | .fz d => some (.nx (ρ.set i (.d d)))
  | .br _ => none
theorem ent_set {K : PySem.W.Frag} {mg : Str → Option Value} {W : WX} {te : TE} {i : Nat} (ent : ∀ σ H Q, tD K fa σ H Q → te σ H Q) : ∀ D σ H, tDS K mg W (gSet i fa) D σ H → tAsg te (gName i) D σ H := fun D σ H h => by
  obtain ⟨B, Hf, ρ, o, er, hg, k⟩ := h
  unfold gSet at hg
  obtain ⟨r, h1, h2⟩ := Option.bind_eq_some_iff.mp hg
  obtain ⟨d, h3, h4⟩ := Option.map_eq_some_iff.mp h2
  subst h4
  refine ent σ H _ ⟨B, Hf, ρ, r, er, h1, fun v Hf' H' g' q => ?_⟩
  obtain ⟨Hf2, g2, s2, d2⟩ := q.freeze er g' h3
  exact k _ Hf2 H' (g2.gb er.bh) ((er.grow g2).set i d2)
theorem ER.setO {K : PySem.W.Frag} {B Hf H : Hp} {σ : L2.St} {ρ : Rho} {p : Addr} {vs : List V} {xs : List PyData} (er : ER K B Hf H σ ρ) (i : Nat) (h1 : Hf p = none) (h2 : B p = none) (h3 : H p = some (.lst vs)) (h4 : DpAll K Hf vs xs)
    (hn : ∀ (j : Nat) (ys : List PyData), ρ[j]? = some (Slot.own ys) → σ[j]? ≠ some (some (V.ref p))) : ER K B Hf H (σ.set i (some (.ref p))) (ρ.set i (.own xs)) := by
  refine ⟨er.fh, er.bh, by rw [List.length_set, List.length_set]; exact er.len, fun j s o q1 q2 => ?_, er.bn, fun j k ys zs p' hjk q1 q2 q3 q4 => ?_⟩
  · by_cases z : i = j
    · subst z
      by_cases hi : i < ρ.length
      · rw [List.getElem?_set_self hi] at q1
        rw [List.getElem?_set_self (by rw [er.len]; exact hi)] at q2
        cases q1; cases q2
        exact ⟨p, vs, rfl, h1, h2, h3, h4⟩
      · rw [List.getElem?_eq_none (by rw [List.length_set]; omega)] at q1
        cases q1
    · rw [List.getElem?_set_ne z] at q1 q2
      exact er.sl j s o q1 q2
  · have self : ∀ {j : Nat} {ys : List PyData} {p' : Addr}, i = j → (ρ.set i (Slot.own xs))[j]? = some (.own ys) → (σ.set i (some (.ref p)))[j]? = some (some (.ref p')) → p' = p := fun {j ys p'} z r1 r2 => by
      subst z
      by_cases hi : i < ρ.length
      · rw [List.getElem?_set_self (by rw [er.len]; exact hi)] at r2
        cases r2; rfl
      · rw [List.getElem?_eq_none (by rw [List.length_set]; omega)] at r1
        cases r1
    by_cases zj : i = j
    · by_cases zk : i = k
      · exact hjk (zj.symm.trans zk)
      · have := self zj q1 q3
        subst this
        rw [List.getElem?_set_ne zk] at q2 q4
        exact hn k zs q2 q4
    · by_cases zk : i = k
      · have := self zk q2 q4
        subst this
        rw [List.getElem?_set_ne zj] at q1 q3
        exact hn j ys q1 q3
      · rw [List.getElem?_set_ne zj] at q1 q3
        rw [List.getElem?_set_ne zk] at q2 q4
        exact er.dj j k ys zs p' hjk q1 q2 q3 q4
theorem ER.own_there {K : PySem.W.Frag} {B Hf H : Hp} {σ : L2.St} {ρ : Rho} (er : ER K B Hf H σ ρ) {j : Nat} {ys : List PyData} {p : Addr} (h : ρ[j]? = some (.own ys)) (h2 : σ[j]? = some (some (.ref p))) : Hf p = none ∧ B p = none ∧ ∃ vs, H p = some (.lst vs) ∧ DpAll K Hf vs ys := by
  obtain ⟨p', vs, e, a1, a2, a3, a4⟩ := er.sl j _ _ h h2
  cases e
  exact ⟨a1, a2, vs, a3, a4⟩
theorem ent_setO {K : PySem.W.Frag} {mg : Str → Option Value} {W : WX} {te : TE} {i : Nat} (ent : ∀ σ H Q, tD K fa σ H Q → te σ H Q) : ∀ D σ H, tDS K mg W (gSetO i fa) D σ H → tAsg te (gName i) D σ H := fun D σ H h => by
  obtain ⟨B, Hf, ρ, o, er, hg, k⟩ := h
  unfold gSetO at hg
  obtain ⟨r, h1, h2⟩ := Option.bind_eq_some_iff.mp hg
  refine ent σ H _ ⟨B, Hf, ρ, r, er, h1, fun v Hf' H' g' q => ?_⟩
  cases r with
  | nw xs =>
    cases h2
    obtain ⟨p, vs, rfl, h0, h3, h5, h6⟩ := q
    refine k _ Hf' H' (g'.gb er.bh) ((er.grow g').setO i h3 (er.bh.free h0) h5 h6 fun j ys e1 e2 => ?_)
    obtain ⟨_, _, ws, e3, _⟩ := er.own_there e1 e2
    rw [h0] at e3; cases e3
  | fz d => cases h2; exact k _ Hf' H' (g'.gb er.bh) ((er.grow g').set i q)
  | br ys => cases h2
theorem s_set {x : Str} {p : Pos} (i : Nat) (hN : X.N.Nodup) (ha : DE X e fa) (hi : X.N[i]? = some x := by rfl) (hx : Loc X.env.scope x := by first | exact Or.inl rfl | exact Or.inr rfl) (hs : swapsWith e (some (.Name x p)) pos.line X.env = pure false := by rfl) (hf : X.fn x = true ∨ X.env.scope.names.lookup x = some .local := by first | exact .inl rfl | exact .inr rfl | assumption) :
    DS X (.Assign [.Name x p] e pos) (gSet i fa) := ps_mono (ps_set (i := i) hN hi hx ha hs hf) (ent_set fun _ _ _ h => h)
theorem s_setO {x : Str} {p : Pos} (i : Nat) (hN : X.N.Nodup) (ha : DE X e fa) (hi : X.N[i]? = some x := by rfl) (hx : Loc X.env.scope x := by first | exact Or.inl rfl | exact Or.inr rfl) (hs : swapsWith e (some (.Name x p)) pos.line X.env = pure false := by rfl) (hf : X.fn x = true ∨ X.env.scope.names.lookup x = some .local := by first | exact .inl rfl | exact .inr rfl | assumption) :
    DS X (.Assign [.Name x p] e pos) (gSetO i fa) := ps_mono (ps_set (i := i) hN hi hx ha hs hf) (ent_setO fun _ _ _ h => h)
/-- y = [..] -/
theorem s_lc {i : Nat} {y : Str} {py ppos : Pos} {elt : Expr} {ifs : List Expr} {scope : Scope} {it : Rho → Option (List PyData)} {ct : Rho → Option Bool} (j : Nat) (x : Str) (hN : X.N.Nodup) (hi : DJ X tg iter it) (ok : blkC X.N X.env.scope scope [(x, j)] = true)
    (hg : ∀ (s : Shared) (H : Hp) (C : Addr) (cl : List (Str × Addr)) (fp : List Addr), PG (X.blk s H scope (compEnvC scope cl C X.env) fp) tg (gName j))
    (ht : ∀ (s : Shared) (H : Hp) (C : Addr) (cl : List (Str × Addr)) (fp : List Addr), DTs (X.blk s H scope (compEnvC scope cl C X.env) fp) ifs ct)
    (he : ∀ (s : Shared) (H : Hp) (C : Addr) (cl : List (Str × Addr)) (fp : List Addr), DE (X.blk s H scope (compEnvC scope cl C X.env) fp) elt fa)
    (hyi : X.N[i]? = some y) (hyl : X.env.scope.names.lookup y = some .local) (hsw : swapsWith (.ListComp elt [⟨tg, iter, ifs, 0⟩] scope ppos) (some (.Name y py)) pos.line X.env = pure true) (hc : X.calm = true) (hs : ∀ x, foldedSetIterable iter X.env x = pure x) :
    PS X (.Assign [.Name y py] (.ListComp elt [⟨tg, iter, ifs, 0⟩] scope ppos) pos) (tAsg (tLc (tDJ X.K it) (gName j) (tDT X.K ct) (tD X.K fa) [j]) (gName i)) :=
  ps_setLc (own := [(x, j)]) hc hN hyi hyl hsw hi (blkOk_by ok) hg ht he hs
theorem s_setLc {y : Str} {py ppos : Pos} {elt : Expr} {ifs : List Expr} {scope : Scope} {it : Rho → Option (List PyData)} {ct : Rho → Option Bool} (i j : Nat) (x : Str) (hN : X.N.Nodup) (hi : DJ X tg iter it) (ok : blkC X.N X.env.scope scope [(x, j)] = true)
    (hg : ∀ (s : Shared) (H : Hp) (C : Addr) (cl : List (Str × Addr)) (fp : List Addr), PG (X.blk s H scope (compEnvC scope cl C X.env) fp) tg (gName j))
    (ht : ∀ (s : Shared) (H : Hp) (C : Addr) (cl : List (Str × Addr)) (fp : List Addr), DTs (X.blk s H scope (compEnvC scope cl C X.env) fp) ifs ct)
    (he : ∀ (s : Shared) (H : Hp) (C : Addr) (cl : List (Str × Addr)) (fp : List Addr), DE (X.blk s H scope (compEnvC scope cl C X.env) fp) elt fa)
    (hyi : X.N[i]? = some y := by rfl) (hyl : X.env.scope.names.lookup y = some .local := by rfl) (hsw : swapsWith (.ListComp elt [⟨tg, iter, ifs, 0⟩] scope ppos) (some (.Name y py)) pos.line X.env = pure true := by exact sw_true rfl rfl rfl (by decide +kernel)) (hc : X.calm = true := by rfl) (hs : ∀ x, foldedSetIterable iter X.env x = pure x := by intro _; rfl) :
    DS X (.Assign [.Name y py] (.ListComp elt [⟨tg, iter, ifs, 0⟩] scope ppos) pos) (gSet i (fLc it j ct fa [j])) := ps_mono (s_lc j x hN hi ok hg ht he hyi hyl hsw hc hs) (ent_set lc_ent)
theorem s_setLcO {y : Str} {py ppos : Pos} {elt : Expr} {ifs : List Expr} {scope : Scope} {it : Rho → Option (List PyData)} {ct : Rho → Option Bool} (i j : Nat) (x : Str) (hN : X.N.Nodup) (hi : DJ X tg iter it) (ok : blkC X.N X.env.scope scope [(x, j)] = true)
    (hg : ∀ (s : Shared) (H : Hp) (C : Addr) (cl : List (Str × Addr)) (fp : List Addr), PG (X.blk s H scope (compEnvC scope cl C X.env) fp) tg (gName j))
    (ht : ∀ (s : Shared) (H : Hp) (C : Addr) (cl : List (Str × Addr)) (fp : List Addr), DTs (X.blk s H scope (compEnvC scope cl C X.env) fp) ifs ct)
    (he : ∀ (s : Shared) (H : Hp) (C : Addr) (cl : List (Str × Addr)) (fp : List Addr), DE (X.blk s H scope (compEnvC scope cl C X.env) fp) elt fa)
    (hyi : X.N[i]? = some y := by rfl) (hyl : X.env.scope.names.lookup y = some .local := by rfl) (hsw : swapsWith (.ListComp elt [⟨tg, iter, ifs, 0⟩] scope ppos) (some (.Name y py)) pos.line X.env = pure true := by exact sw_true rfl rfl rfl (by decide +kernel)) (hc : X.calm = true := by rfl) (hs : ∀ x, foldedSetIterable iter X.env x = pure x := by intro _; rfl) :
    DS X (.Assign [.Name y py] (.ListComp elt [⟨tg, iter, ifs, 0⟩] scope ppos) pos) (gSetO i (fLc it j ct fa [j])) := ps_mono (s_lc j x hN hi ok hg ht he hyi hyl hsw hc hs) (ent_setO lc_ent)
/-- a, b = e -/
def gAsg (u : FU) (f : FE) : FS := fun ρ => (f ρ).bind fun r => r.fr.bind fun d => (u d ρ).map .nx
theorem s_asg {u : FU} (ha : DE X e fa) (hg : DG X tg u) (hs : swapsWithSole [tg] e pos.line X.env = pure false := by rfl) (hw : swappedStores [tg] e X.env = pure none := by rfl)
    (h1 : (assignEach [tg] X.env).map (·.2) = [assign tg X.env] := by rfl) : DS X (.Assign [tg] e pos) (gAsg u fa) := ps_mono (ps_asg ha hg hs hw h1) fun D σ H h => by
  obtain ⟨B, Hf, ρ, o, er, hg, k⟩ := h
  unfold gAsg at hg
  obtain ⟨r, h1, h2⟩ := Option.bind_eq_some_iff.mp hg
  obtain ⟨d, h3, h4⟩ := Option.bind_eq_some_iff.mp h2
  obtain ⟨ρ1, h5, h6⟩ := Option.map_eq_some_iff.mp h4
  subst h6
  refine ⟨B, Hf, ρ, r, er, h1, fun v Hf' H' g' q => ?_⟩
  obtain ⟨Hf2, g2, s2, d2⟩ := q.freeze er g' h3
  exact ⟨B, Hf2, ρ, d, ρ1, er.grow g2, d2, h5, fun σ' er' => k σ' Hf2 H' (g2.gb er.bh) er'⟩
/-- a, b = x, y, written on both sides -/
def gPar (i j : Nat) (fs : FA) : FS := fun ρ => (fs ρ).bind fun rs => (frs rs).bind fun ds => match ds with
  | [x, y] => some (.nx ((ρ.set i (.d x)).set j (.d y)))
  | _ => none
theorem s_par {x y : Str} {px py pt pt2 : Pos} {kt k2} (i j : Nat) (hN : X.N.Nodup) (ha : DA X [a, b] fs) (hij : i ≠ j := by decide) (hi : X.N[i]? = some x := by rfl) (hj : X.N[j]? = some y := by rfl) (hx : X.env.scope.names.lookup x = some .local := by rfl) (hy : X.env.scope.names.lookup y = some .local := by rfl)
    (hw : swappedStores [.Tuple [.Name x px, .Name y py] kt pt] (.Tuple [a, b] k2 pt2) X.env = pure (some [x, y]) := by rfl) (hs : swapsWithSole [.Tuple [.Name x px, .Name y py] kt pt] (.Tuple [a, b] k2 pt2) pos.line X.env = pure false := by rfl) (hc : X.calm = true := by rfl) :
    DS X (.Assign [.Tuple [.Name x px, .Name y py] kt pt] (.Tuple [a, b] k2 pt2) pos) (gPar i j fs) := ps_mono (ps_par (i := i) (j := j) hc hN hi hj hij hx hy ha hw hs) fun D σ H h => by
  obtain ⟨B, Hf, ρ, o, er, hg, k⟩ := h
  unfold gPar at hg
  obtain ⟨rs, h1, h2⟩ := Option.bind_eq_some_iff.mp hg
  obtain ⟨ds, h3, h4⟩ := Option.bind_eq_some_iff.mp h2
  refine ⟨B, Hf, ρ, rs, er, h1, fun vs Hf' H' g' q => ?_⟩
  obtain ⟨Hf2, g2, s2, d2⟩ := RRs.freeze er g' q h3
  split at h4
  · cases h4
    cases d2 with
    | cons a1 t1 =>
      cases t1 with
      | cons a2 t2 =>
        cases t2
        exact ⟨_, _, rfl, k _ Hf2 H' (g2.gb er.bh) (((er.grow g2).set i a1).set j a2)⟩
  · cases h4
/-- x += e -/
def gAug (i : Nat) (h : PyData → PyData → Option PyData) (f : FE) : FS := fun ρ => match ρ[i]? with
  | some (.d x) => (f ρ).bind fun r => (h x r.rd).map fun d => .nx (ρ.set i (.d d))
  | _ => none
def hAdd : PyData → PyData → Option PyData
  | .int i, .int j => some (.int (i + j))
  | _, _ => none
def hSub : PyData → PyData → Option PyData
  | .int i, .int j => some (.int (i - j))
  | _, _ => none
theorem s_augI {x : Str} {p : Pos} {op : Operator} {h2 : Int → Int → Int} {h : PyData → PyData → Option PyData} (i : Nat) (hN : X.N.Nodup) (ho : PIp X op (rI0 fun i j => .int (h2 i j))) (hh : ∀ x y d, h x y = some d → ∃ i j, x = .int i ∧ y = .int j ∧ d = .int (h2 i j)) (ha : DE X e fa) (hi : X.N[i]? = some x := by rfl) (hx : Loc X.env.scope x := by first | exact Or.inl rfl | exact Or.inr rfl) (hf : X.fn x = true ∨ X.env.scope.names.lookup x = some .local := by first | exact .inl rfl | exact .inr rfl | assumption) :
    DS X (.AugAssign (.Name x p) op e pos) (gAug i h fa) := ps_mono (ps_aug (i := i) hN hi hx ha ho hf) fun D σ H q => by
  obtain ⟨B, Hf, ρ, o, er, hg, k⟩ := q
  unfold gAug at hg
  split at hg
  · rename_i x0 hs
    obtain ⟨r, h3, h4⟩ := Option.bind_eq_some_iff.mp hg
    obtain ⟨d, h5, h6⟩ := Option.map_eq_some_iff.mp h4
    subst h6
    obtain ⟨n, m, rfl, e2, rfl⟩ := hh _ _ _ h5
    have hiσ : i < σ.length := by rw [er.len]; exact (List.getElem?_eq_some_iff.mp hs).1
    have hoσ : σ[i]? = some σ[i] := List.getElem?_eq_getElem hiσ
    obtain ⟨v, ev, hd⟩ := er.sl i _ _ hs hoσ
    cases hd
    refine ⟨.int n, by rw [hoσ, ev], B, Hf, ρ, r, er, h3, fun w Hf' H' g' q => ⟨n, m, rfl, q.int e2, ?_⟩⟩
    exact k _ Hf' H' (g'.gb er.bh) ((er.grow g').set i (.int _))
  · cases hg
theorem s_aug_add {x : Str} {p : Pos} (i : Nat) (hN : X.N.Nodup) (ha : DE X e fa) (hi : X.N[i]? = some x := by rfl) (hx : Loc X.env.scope x := by first | exact Or.inl rfl | exact Or.inr rfl) (hf : X.fn x = true ∨ X.env.scope.names.lookup x = some .local := by first | exact .inl rfl | exact .inr rfl | assumption) :
    DS X (.AugAssign (.Name x p) .Add e pos) (gAug i hAdd fa) := s_augI i hN iop_add (fun x y d h => by
  unfold hAdd at h
  split at h
  · cases h; exact ⟨_, _, rfl, rfl, rfl⟩
  · cases h) ha hi hx hf
theorem s_aug_sub {x : Str} {p : Pos} (i : Nat) (hN : X.N.Nodup) (ha : DE X e fa) (hi : X.N[i]? = some x := by rfl) (hx : Loc X.env.scope x := by first | exact Or.inl rfl | exact Or.inr rfl) (hf : X.fn x = true ∨ X.env.scope.names.lookup x = some .local := by first | exact .inl rfl | exact .inr rfl | assumption) :
    DS X (.AugAssign (.Name x p) .Sub e pos) (gAug i hSub fa) := s_augI i hN iop_sub (fun x y d h => by
  unfold hSub at h
  split at h
  · cases h; exact ⟨_, _, rfl, rfl, rfl⟩
  · cases h) ha hi hx hf

/-! ### a slot's own list changed -/
/-- its new content at p -/
theorem ER.put {K : PySem.W.Frag} {B Hf H : Hp} {σ : L2.St} {ρ : Rho} {i : Nat} {p : Addr} {xs ys : List PyData} {vs : List V} (er : ER K B Hf H σ ρ) (h : ρ[i]? = some (.own xs)) (h2 : σ[i]? = some (some (.ref p))) (hd : DpAll K Hf vs ys) : ER K B Hf (upd H p (.lst vs)) σ (ρ.set i (.own ys)) := by
  obtain ⟨a1, a2, ws, a3, a4⟩ := er.own_there h h2
  have hi : i < ρ.length := (List.getElem?_eq_some_iff.mp h).1
  refine ⟨same_mut er.fh a1, same_mut er.bh a2, by rw [List.length_set]; exact er.len, fun j s o q1 q2 => ?_, er.bn, fun j k zs us p' hjk q1 q2 q3 q4 => ?_⟩
  · by_cases z : i = j
    · subst z
      rw [List.getElem?_set_self hi] at q1
      cases q1
      rw [h2] at q2
      cases q2
      exact ⟨p, vs, rfl, a1, a2, upd_same, hd⟩
    · rw [List.getElem?_set_ne z] at q1
      have q := er.sl j s o q1 q2
      cases s with
      | und => trivial
      | pin v => exact q
      | d x => exact q
      | own zs =>
        obtain ⟨p', ws', e, b1, b2, b3, b4⟩ := q
        subst e
        have ne : p' ≠ p := fun z2 => by
          subst z2
          exact er.dj i j xs zs p' z h q1 h2 q2
        exact ⟨p', ws', rfl, b1, b2, by rw [upd_ne ne]; exact b3, b4⟩
  · have back : ∀ {j : Nat} {zs : List PyData}, (ρ.set i (Slot.own ys))[j]? = some (.own zs) → ∃ zs', ρ[j]? = some (.own zs') := fun {j zs} r => by
      by_cases z : i = j
      · subst z; exact ⟨xs, h⟩
      · rw [List.getElem?_set_ne z] at r; exact ⟨zs, r⟩
    obtain ⟨zs', r1⟩ := back q1
    obtain ⟨us', r2⟩ := back q2
    exact er.dj j k zs' us' p' hjk r1 r2 q3 q4
theorem ER.at {K : PySem.W.Frag} {B Hf H : Hp} {σ : L2.St} {ρ : Rho} {i : Nat} {xs : List PyData} (er : ER K B Hf H σ ρ) (h : ρ[i]? = some (.own xs)) : ∃ p, σ[i]? = some (some (.ref p)) := by
  have hiσ : i < σ.length := by rw [er.len]; exact (List.getElem?_eq_some_iff.mp h).1
  have hoσ : σ[i]? = some σ[i] := List.getElem?_eq_getElem hiσ
  obtain ⟨p, vs, e, _⟩ := er.sl i _ _ h hoσ
  exact ⟨p, by rw [hoσ, e]⟩
/-- xs.append(e) -/
def gApp (i : Nat) (f : FE) : FS := fun ρ => match ρ[i]? with
  | some (.own xs) => (f ρ).bind fun r => r.fr.bind fun d => if small xs.length then some (.nx (ρ.set i (.own (xs ++ [d])))) else none
  | _ => none
theorem s_app {x : Str} {p apos cpos : Pos} (i : Nat) (ha : DE X e fa) (hp : PS X (.Expr (.Call (.Attribute (.Name x p) "append" apos) [e] [] cpos) pos) (tDrop (tBM X.K "list" rAppend (tVar i) (tCons (tD X.K fa) tNil)))) :
    DS X (.Expr (.Call (.Attribute (.Name x p) "append" apos) [e] [] cpos) pos) (gApp i fa) := ps_mono hp fun D σ H q => by
  obtain ⟨B, Hf, ρ, o, er, hg, k⟩ := q
  unfold gApp at hg
  split at hg
  · rename_i xs hs
    obtain ⟨r, h3, h4⟩ := Option.bind_eq_some_iff.mp hg
    obtain ⟨d, h5, h6⟩ := Option.bind_eq_some_iff.mp h4
    split at h6
    · rename_i hz
      cases h6
      obtain ⟨l, hl⟩ := er.at hs
      obtain ⟨a1, a2, ws, a3, a4⟩ := er.own_there hs hl
      refine ⟨.ref l, hl, .inl ⟨rfl, _, SqL.of a3⟩, B, Hf, ρ, r, er, h3, fun v Hf' H' g' q => ?_⟩
      obtain ⟨Hf2, g2, s2, d2⟩ := q.freeze er g' h5
      have er2 := er.grow g2
      obtain ⟨b1, b2, ws2, b3, b4⟩ := er2.own_there hs hl
      refine ⟨l, ws2, v, rfl, rfl, b3, by rw [dpa_len b4]; exact Nat.lt_of_le_of_lt hz (by decide), ?_⟩
      exact k _ Hf2 _ (g2.gb er.bh) (er2.put hs hl (dpa_app b4 (.cons d2 .nil)))
    · cases h6
  · cases hg
/-- xs[j] = e -/
def gPut (i : Nat) (fj : FE) (f : FE) : FS := fun ρ => (f ρ).bind fun r => r.fr.bind fun d => (fj ρ).bind fun j => match ρ[i]?, j.rd with
  | some (.own xs), .int n => (ixN xs.length n).map fun m => .nx (ρ.set i (.own (xs.set m d)))
  | _, _ => none
theorem s_put {x : Str} {p tpos : Pos} (i : Nat) (ha : DE X e fa) (hb : DE X b fb) (hp : PS X (.Assign [.Subscript (.Name x p) b tpos] e pos) (tAsg (tD X.K fa) (gSub (tVar i) (tD X.K fb) rSetL))) :
    DS X (.Assign [.Subscript (.Name x p) b tpos] e pos) (gPut i fb fa) := ps_mono hp fun D σ H q => by
  obtain ⟨B, Hf, ρ, o, er, hg, k⟩ := q
  unfold gPut at hg
  obtain ⟨r, h3, h4⟩ := Option.bind_eq_some_iff.mp hg
  obtain ⟨d, h5, h6⟩ := Option.bind_eq_some_iff.mp h4
  obtain ⟨j, h7, h8⟩ := Option.bind_eq_some_iff.mp h6
  split at h8
  · rename_i xs n hs hj
    obtain ⟨m, h9, h10⟩ := Option.map_eq_some_iff.mp h8
    subst h10
    refine ⟨B, Hf, ρ, r, er, h3, fun v Hf' H' g' q => ?_⟩
    obtain ⟨Hf2, g2, s2, d2⟩ := q.freeze er g' h5
    have er2 := er.grow g2
    obtain ⟨l, hl⟩ := er2.at hs
    refine ⟨.ref l, hl, B, Hf2, ρ, j, er2, h7, fun w Hf3 H3 g3 q3 => ?_⟩
    have er3 := er2.grow g3
    obtain ⟨b1, b2, ws2, b3, b4⟩ := er3.own_there hs hl
    refine ⟨l, ws2, n, m, rfl, q3.int hj, b3, by rw [dpa_len b4]; exact h9, ?_⟩
    exact k _ Hf3 _ ((g2.trans g3).gb er.bh) (er3.put hs hl (dpa_set (dp_mono g3.f _ _ d2) m b4))
  · cases h8
/-- a slot's own list is left as it is from here on -/
def frz (i : Nat) (ρ : Rho) : Rho := match ρ[i]? with
  | some (.own xs) => ρ.set i (.d (.list xs))
  | _ => ρ
theorem ER.frz {K : PySem.W.Frag} {B Hf H : Hp} {σ : L2.St} {ρ : Rho} (er : ER K B Hf H σ ρ) (i : Nat) : ∃ Hf2, GB B Hf Hf2 ∧ ER K B Hf2 H σ (DL.frz i ρ) := by
  unfold DL.frz
  split
  · rename_i xs hs
    obtain ⟨p, hp⟩ := er.at hs
    obtain ⟨a1, a2, ws, a3, a4⟩ := er.own_there hs hp
    have hi : i < ρ.length := (List.getElem?_eq_some_iff.mp hs).1
    refine ⟨upd Hf p (.lst ws), ⟨same_upd a1, fun a o e n => by rw [upd_ne (ne_of_none e a2)]; exact n, fun b => b.upd .lst⟩, fun a o e => ?_, er.bh, by rw [List.length_set]; exact er.len, fun j s o q1 q2 => ?_, er.bn.upd .lst, fun j k ys zs p' hjk q1 q2 q3 q4 => ?_⟩
    · by_cases z : a = p
      · subst z; rw [upd_same] at e; cases e; exact a3
      · rw [upd_ne z] at e; exact er.fh _ _ e
    · by_cases z : i = j
      · subst z
        rw [List.getElem?_set_self hi] at q1
        cases q1
        rw [hp] at q2
        cases q2
        exact ⟨_, rfl, .lst (SqL.of upd_same) (dpa_mono (same_upd a1) _ _ a4)⟩
      · rw [List.getElem?_set_ne z] at q1
        have q := er.sl j s o q1 q2
        cases s with
        | und => trivial
        | pin v => exact q
        | d x => obtain ⟨v, e, hd⟩ := q; exact ⟨v, e, dp_mono (same_upd a1) _ _ hd⟩
        | own zs =>
          obtain ⟨p', ws', e, b1, b2, b3, b4⟩ := q
          subst e
          have ne : p' ≠ p := fun z2 => by
            subst z2
            exact er.dj i j xs zs p' z hs q1 hp q2
          exact ⟨p', ws', rfl, by rw [upd_ne ne]; exact b1, b2, b3, dpa_mono (same_upd a1) _ _ b4⟩
    · have back : ∀ {j : Nat} {zs : List PyData}, (ρ.set i (Slot.d (.list xs)))[j]? = some (.own zs) → ρ[j]? = some (.own zs) := fun {j zs} r => by
        by_cases z : i = j
        · subst z; rw [List.getElem?_set_self hi] at r; cases r
        · rw [List.getElem?_set_ne z] at r; exact r
      exact er.dj j k ys zs p' hjk (back q1) (back q2) q3 q4
  · exact ⟨Hf, GB.refl, er⟩
theorem s_frz (i : Nat) (h : DS X st g) : DS X st (fun ρ => g (frz i ρ)) := ps_mono h fun D σ H q => by
  obtain ⟨B, Hf, ρ, o, er, hg, k⟩ := q
  obtain ⟨Hf2, g2, er2⟩ := er.frz i
  exact ⟨B, Hf2, _, o, er2, hg, k.more g2⟩

/-- as s_frz, by a name -/
def gFrz (i : Nat) (g : FS) : FS := fun ρ => g (frz i ρ)
theorem s_frzN (i : Nat) (h : DS X st g) : DS X st (gFrz i g) := s_frz i h

/-! ### loops -/
def forD (u : FU) (body : FS) : List PyData → Rho → Option Out
  | [], ρ => some (.nx ρ)
  | x :: xs, ρ => (u x ρ).bind fun ρ1 => (body ρ1).bind fun o => match o with
    | .nx ρ2 => forD u body xs ρ2
    | .ct ρ2 => forD u body xs ρ2
    | .bk ρ2 => some (.nx ρ2)
    | .rt d => some (.rt d)
    | .ex x ρ2 => some (.ex x ρ2)
def gFor (it : Rho → Option (List PyData)) (u : FU) (body : FS) : FS := fun ρ => (it ρ).bind fun xs => forD u body xs ρ
theorem s_for {it : Rho → Option (List PyData)} {u : FU} {body : List Stmt} (hi : DI X tg iter it) (hg : DG X tg u) (hb : DSs X body g) (hp : PassesOwn (model X.prog X.w) X.A X.env X.xe := by exact PassesOwn.never) (hc : X.calm = true := by rfl) (hs : ∀ x, foldedSetIterable iter X.env x = pure x := by intro _; rfl) :
    DS X (.For tg iter body [] pos) (gFor it u g) := ps_mono (ps_for hp hc hi hg hb hs) fun D σ H h => by
  obtain ⟨B, Hf, ρ, o, er, hg, k⟩ := h
  unfold gFor at hg
  obtain ⟨xs, h1, h2⟩ := Option.bind_eq_some_iff.mp hg
  refine ⟨B, Hf, ρ, xs, er, h1, fun J Hf1 H1 g1 I1 => ?_⟩
  have gb1 := g1.gb er.bh
  let P : Nat → L2.St → Hp → Prop := fun i σ' H' => ∃ Hg ρ', GB B Hf1 Hg ∧ ER X.K B Hg H' σ' ρ' ∧ forD u g (xs.drop i) ρ' = some o
  refine ⟨fun i m σ' H' => m = xs.length - i ∧ i ≤ xs.length ∧ P i σ' H', ⟨xs.length, by simp, Nat.zero_le _, Hf1, ρ, GB.refl, er.grow g1, by rw [List.drop_zero]; exact h2⟩, ?_⟩
  rintro i m σ2 H2 ⟨rfl, hi, Hg, ρ2, gb, er2, hl⟩
  have s2 : Same Hf1 H2 := gb.f.trans er2.fh
  by_cases hlt : i < xs.length
  · refine .inr ⟨I1.go i H2 s2 hlt, P (i + 1), fun σ' H' p => ⟨xs.length - (i + 1), by omega, rfl, hlt, p⟩, fun x H3 y => ?_⟩
    obtain ⟨Hg3, g3, dx⟩ := I1.yld i H2 x H3 Hg xs[i] s2 gb.f er2.fh (getE hlt) y
    rw [List.drop_eq_getElem_cons hlt] at hl
    unfold forD at hl
    obtain ⟨ρ3, h3, h4⟩ := Option.bind_eq_some_iff.mp hl
    obtain ⟨o4, h5, h6⟩ := Option.bind_eq_some_iff.mp h4
    have er3 := er2.grow g3
    have gb3 : GB B Hf1 Hg3 := gb.trans (g3.gb er2.bh)
    refine ⟨B, Hg3, ρ2, xs[i], ρ3, er3, dx, h3, fun σ4 er4 => ⟨B, Hg3, ρ3, o4, er4, h5, ?_⟩⟩
    cases o4 with
    | nx ρ5 => exact fun σ' Hf' H' g' er' => ⟨Hf', ρ5, gb3.trans g', er', h6⟩
    | ct ρ5 => exact fun σ' Hf' H' g' er' => ⟨Hf', ρ5, gb3.trans g', er', h6⟩
    | bk ρ5 =>
      cases h6
      exact fun σ' Hf' H' g' er' => k σ' Hf' H' ((gb1.trans gb3).trans g') er'
    | rt d =>
      cases h6
      exact fun v Hf' H' g' e1 e2 dp => k v Hf' H' ((gb1.trans gb3).trans g') e1 e2 dp
    | ex x ρ5 =>
      cases h6
      exact fun C σ' Hf' H' e g' er' => k C σ' Hf' H' e ((gb1.trans gb3).trans g') er'
  · have ei : i = xs.length := by omega
    subst ei
    rw [List.drop_length] at hl
    cases hl
    exact .inl ⟨I1.stop _ H2 s2 (Nat.le_refl _), k σ2 Hg H2 (gb1.trans gb) er2⟩
/-- for i, x in enumerate(xs) -/
theorem s_forE {us : FUs} {n kk : Nat} {elts : List Expr} {p tpos cpos : Pos} {body : List Stmt} (hm : X.mg "enumerate" = none) (ha : DA X [a] fs) (h : DGs X elts us) (hb : DSs X body g) (hp : PassesOwn (model X.prog X.w) X.A X.env X.xe := by exact PassesOwn.never) (hc : X.calm = true := by rfl)
    (hg : Gl X "enumerate" := by rfl) (hq : starEach [a] X.env = [(false, eval a X.env)] := by rfl) (hs : ∀ x, foldedSetIterable (.Call (.Name "enumerate" p) [a] [] cpos) X.env x = pure x := by intro _; rfl) (hn : (assignEach elts X.env).length = n := by rfl) (hst : (assignEach elts X.env).findIdx? (·.1) = none := by rfl) :
    DS X (.For (.Tuple elts kk tpos) (.Call (.Name "enumerate" p) [a] [] cpos) body [] pos) (gFor (enF fs) (uTup n us) g) := ps_mono (ps_for hp hc (i_enum hm ha hg hq) (g_tupT h hc hn hst) hb hs) fun D σ H h => by
  obtain ⟨B, Hf, ρ, o, er, hg, k⟩ := h
  unfold gFor at hg
  obtain ⟨ys, h1, h2⟩ := Option.bind_eq_some_iff.mp hg
  obtain ⟨xs, rfl⟩ : ∃ xs, ys = enD 0 xs := by
    unfold enF at h1
    obtain ⟨rs, _, h4⟩ := Option.bind_eq_some_iff.mp h1
    split at h4
    · cases h4; exact ⟨_, rfl⟩
    · cases h4; exact ⟨_, rfl⟩
    · cases h4
  refine ⟨B, Hf, ρ, xs, er, h1, fun J Hf1 H1 g1 I1 => ?_⟩
  have gb1 := g1.gb er.bh
  let P : Nat → L2.St → Hp → Prop := fun i σ' H' => ∃ Hg ρ', GB B Hf1 Hg ∧ ER X.K B Hg H' σ' ρ' ∧ forD (uTup n us) g ((enD 0 xs).drop i) ρ' = some o
  refine ⟨fun i m σ' H' => m = xs.length - i ∧ i ≤ xs.length ∧ P i σ' H', ⟨xs.length, by simp, Nat.zero_le _, Hf1, ρ, GB.refl, er.grow g1, by rw [List.drop_zero]; exact h2⟩, ?_⟩
  rintro i m σ2 H2 ⟨rfl, hi, Hg, ρ2, gb, er2, hl⟩
  have s2 : Same Hf1 H2 := gb.f.trans er2.fh
  by_cases hlt : i < xs.length
  · refine .inr ⟨I1.go i H2 s2 hlt, P (i + 1), fun σ' H' p => ⟨xs.length - (i + 1), by omega, rfl, hlt, p⟩, fun x H3 y => ?_⟩
    obtain ⟨g3, T, vs, rfl, hT, dT⟩ := I1.yld i H2 x H3 Hg xs[i] gb.f er2.fh (getE hlt) y
    have hlt' : i < (enD 0 xs).length := by rw [enD_len]; exact hlt
    have hit : (enD 0 xs)[i] = .tuple [.int (i : Nat), xs[i]] := by
      have q := enD_get 0 xs i
      rw [getE hlt', getE hlt, Option.map_some, Nat.zero_add] at q
      exact Option.some.inj q
    rw [List.drop_eq_getElem_cons hlt', hit] at hl
    unfold forD at hl
    obtain ⟨ρ3, h3, h4⟩ := Option.bind_eq_some_iff.mp hl
    obtain ⟨o4, h5, h6⟩ := Option.bind_eq_some_iff.mp h4
    have er3 := er2.grow g3
    refine ⟨B, Hg, ρ2, _, ρ3, T, vs, er3, rfl, hT, dT, h3, fun σ4 er4 => ⟨B, Hg, ρ3, o4, er4, h5, ?_⟩⟩
    cases o4 with
    | nx ρ5 => exact fun σ' Hf' H' g' er' => ⟨Hf', ρ5, gb.trans g', er', h6⟩
    | ct ρ5 => exact fun σ' Hf' H' g' er' => ⟨Hf', ρ5, gb.trans g', er', h6⟩
    | bk ρ5 =>
      cases h6
      exact fun σ' Hf' H' g' er' => k σ' Hf' H' ((gb1.trans gb).trans g') er'
    | rt d =>
      cases h6
      exact fun v Hf' H' g' e1 e2 dp => k v Hf' H' ((gb1.trans gb).trans g') e1 e2 dp
    | ex x ρ5 =>
      cases h6
      exact fun C σ' Hf' H' e g' er' => k C σ' Hf' H' e ((gb1.trans gb).trans g') er'
  · have ei : i = xs.length := by omega
    subst ei
    rw [List.drop_of_length_le (by rw [enD_len]; omega)] at hl
    cases hl
    exact .inl ⟨I1.stop _ H2 s2 (Nat.le_refl _), k σ2 Hg H2 (gb1.trans gb) er2⟩
def whD (c : Rho → Option Bool) (body : FS) : Nat → Rho → Option Out
  | 0, _ => none
  | n + 1, ρ => (c ρ).bind fun b => if b = true then (body ρ).bind fun o => match o with
    | .nx ρ2 => whD c body n ρ2
    | .ct ρ2 => whD c body n ρ2
    | .bk ρ2 => some (.nx ρ2)
    | .rt d => some (.rt d)
    | .ex x ρ2 => some (.ex x ρ2)
    else some (.nx ρ)
def gWh (m : Rho → Nat) (c : Rho → Option Bool) (body : FS) : FS := fun ρ => whD c body (m ρ) ρ
theorem s_while (m : Rho → Nat) {body : List Stmt} (ht : DT X c t) (hb : DSs X body g) (hp : PassesOwn (model X.prog X.w) X.A X.env X.xe := by exact PassesOwn.never) : DS X (.While c body [] pos) (gWh m t g) := ps_mono (ps_while hp ht hb) fun D σ H h => by
  obtain ⟨B, Hf, ρ, o, er, hg, k⟩ := h
  unfold gWh at hg
  let P : Nat → L2.St → Hp → Prop := fun n σ' H' => ∃ Hg ρ', GB B Hf Hg ∧ ER X.K B Hg H' σ' ρ' ∧ whD t g n ρ' = some o
  refine ⟨P, ⟨m ρ, Hf, ρ, GB.refl, er, hg⟩, ?_⟩
  rintro n σ2 H2 ⟨Hg, ρ2, gb, er2, hl⟩
  cases n with
  | zero => cases hl
  | succ n =>
    unfold whD at hl
    obtain ⟨bb, h3, h4⟩ := Option.bind_eq_some_iff.mp hl
    refine ⟨B, Hg, ρ2, bb, er2, h3, fun Hf3 H3 g3 => ?_⟩
    have er3 := er2.grow g3
    have gb3 : GB B Hf Hf3 := gb.trans (g3.gb er2.bh)
    cases bb with
    | true =>
      rw [if_pos rfl] at h4
      obtain ⟨o4, h5, h6⟩ := Option.bind_eq_some_iff.mp h4
      refine iteT ?_
      refine ⟨P n, fun σ' H' p => ⟨n, Nat.lt_succ_self _, p⟩, B, Hf3, ρ2, o4, er3, h5, ?_⟩
      cases o4 with
      | nx ρ5 => exact fun σ' Hf' H' g' er' => ⟨Hf', ρ5, gb3.trans g', er', h6⟩
      | ct ρ5 => exact fun σ' Hf' H' g' er' => ⟨Hf', ρ5, gb3.trans g', er', h6⟩
      | bk ρ5 =>
        cases h6
        exact fun σ' Hf' H' g' er' => k σ' Hf' H' (gb3.trans g') er'
      | rt d =>
        cases h6
        exact fun v Hf' H' g' e1 e2 dp => k v Hf' H' (gb3.trans g') e1 e2 dp
      | ex x ρ5 =>
        cases h6
        exact fun C σ' Hf' H' e g' er' => k C σ' Hf' H' e (gb3.trans g') er'
    | false =>
      rw [if_neg Bool.false_ne_true] at h4
      cases h4
      exact iteF (k σ2 Hf3 H3 gb3 er3)
end

/-! ### defs -/
abbrev FD := List PyData → Option PyData
def spD (K : PySem.W.Frag) (n : Nat) (F : FD) : Sp := fun vs H Q _ => ∃ Hf ds d, (Same Hf H ∧ Bn Hf) ∧ DpAll K Hf vs ds ∧ ds.length = n ∧ F ds = some d ∧ ∀ v Hf' H', Gr Hf H Hf' H' → Dp K Hf' v d → Q v H'
def startR (n : Nat) (ds : List PyData) : Rho := ds.map Slot.d ++ List.replicate (n - ds.length) .und
def runD (n : Nat) (g : FS) : FD := fun ds => (g (startR n ds)).bind fun o => match o with
  | .rt d => some d
  | .nx _ => some .none
  | _ => none
theorem er_start {K : PySem.W.Frag} {Hf H : Hp} {N : List Str} {vs : List V} {ds : List PyData} (e : Same Hf H ∧ Bn Hf) (h : DpAll K Hf vs ds) : ER K H Hf H (L2.start N vs) (startR N.length ds) := by
  have hl := dpa_len h
  have noOwn : ∀ {i : Nat} {xs : List PyData}, (startR N.length ds)[i]? = some (.own xs) → False := fun {i xs} q => by
    unfold startR at q
    by_cases hi : i < ds.length
    · rw [List.getElem?_append_left (by simpa using hi), List.getElem?_map] at q
      obtain ⟨d, _, e2⟩ := Option.map_eq_some_iff.mp q
      cases e2
    · rw [List.getElem?_append_right (by simpa using hi), List.getElem?_replicate] at q
      split at q <;> cases q
  refine ⟨e.1, Same.refl _, ?_, fun i s o h1 h2 => ?_, e.2, fun i j xs ys p _ h1 _ _ _ => noOwn h1⟩
  · unfold L2.start startR
    rw [List.length_append, List.length_append, List.length_map, List.length_map, List.length_replicate, List.length_replicate, hl]
  · unfold startR at h1
    unfold L2.start at h2
    by_cases hi : i < ds.length
    · rw [List.getElem?_append_left (by simpa using hi), List.getElem?_map] at h1
      rw [List.getElem?_append_left (by simp; omega), List.getElem?_map] at h2
      obtain ⟨d, e1, rfl⟩ := Option.map_eq_some_iff.mp h1
      obtain ⟨v, e2, rfl⟩ := Option.map_eq_some_iff.mp h2
      obtain ⟨w, e3, hd⟩ := dpa_get h e1
      rw [e2] at e3
      cases e3
      exact ⟨v, rfl, hd⟩
    · rw [List.getElem?_append_right (by simpa using hi), List.getElem?_replicate] at h1
      split at h1
      · cases h1; trivial
      · cases h1
section
variable {P : Program} {w : World} {K : PySem.W.Frag} {mg : Str → Option Value} {base : Heap}
/-- THE RULE for a def that raises nothing -/
theorem def_ok {x qual : Str} {st : Stmt} {f : Addr} {fd : FuncData} {N ps : List Str} {k : Nat} {g : FS} (F : Fun K x qual st f fd) (S : FnScope N ps (defScope st))
    (hbody : ∀ (cdv : Value) (A : Around) (outer : List Env) (s : Shared) (H : Hp) (E : XK), Room k (A.deeper (envOfC qual (defScope st) s.heap.objs.size f cdv)) → DSs (cxOf CX0 P w K mg base N qual (defScope st) f cdv A outer s H E).nox (defBody st) g) :
    FnOk P w K mg base CX0 (k + 1) f fd ps (spD K ps.length (runD N.length g)) := by
  refine F.ok S (fun vs H Q E h => ?_) (fun cdv A outer s H vs Q E hr h => ?_)
  · obtain ⟨Hf, ds, d, e, hd, hl, _⟩ := h
    rw [dpa_len hd, hl]
  · obtain ⟨Hf, ds, d, e, hd, hl, hF, q⟩ := h
    refine ⟨_, hbody cdv A outer s H E hr, ?_⟩
    unfold runD at hF
    obtain ⟨o, h1, h2⟩ := Option.bind_eq_some_iff.mp hF
    have er : ER K H Hf H (L2.start N vs) (startR N.length ds) := er_start e hd
    refine ⟨H, Hf, _, o, er, h1, ?_⟩
    cases o with
    | rt d' =>
      cases h2
      exact fun v Hf' H' g' e1 e2 dp => q v Hf' H' ⟨g'.f, e2, e1, g'.un, g'.bn⟩ dp
    | nx ρ' =>
      cases h2
      exact fun σ' Hf' H' g' er' => q .non Hf' H' ⟨g'.f, er'.bh, er'.fh, g'.un, g'.bn⟩ .non
    | bk _ => cases h2
    | ct _ => cases h2
    | ex _ _ => cases h2
theorem spD_imp {CX : CXT} {k n : Nat} {f : Addr} {fd : FuncData} {ps : List Str} {F G : FD} (h : FnOk P w K mg base CX k f fd ps (spD K n F)) (e : ∀ ds d, ds.length = n → G ds = some d → F ds = some d) : FnOk P w K mg base CX k f fd ps (spD K n G) :=
  h.imp fun vs H Q E q => by
    obtain ⟨Hf, ds, d, h1, h2, h3, h4, h5⟩ := q
    exact ⟨Hf, ds, d, h1, h2, h3, e ds d h3 h4, h5⟩
end
section
variable {X : Cx} {e : Expr} {es : List Expr} {fs : FA} {pos p : Pos} {k n : Nat} {f : Addr} {fd : FuncData} {ps : List Str} {F : FD} {x : Str}
def fCall (F : FD) (fs : FA) : FE := fun ρ => (fs ρ).bind fun rs => (frs rs).bind fun ds => (F ds).map .fz
theorem ent_call {K : PySem.W.Frag} {E : XK} (hn : ∀ rs, (∃ ρ, fs ρ = some rs) → rs.length = n) : ∀ σ H Q, tD K (fCall F fs) σ H Q → tCall (spD K n F) [] E (tDA K fs) σ H Q := fun σ H Q h => by
  obtain ⟨B, Hf, ρ, r, er, hf, q⟩ := h
  unfold fCall at hf
  obtain ⟨rs, h1, h2⟩ := Option.bind_eq_some_iff.mp hf
  obtain ⟨ds, h3, h4⟩ := Option.bind_eq_some_iff.mp h2
  obtain ⟨d, h5, h6⟩ := Option.map_eq_some_iff.mp h4
  subst h6
  refine ⟨B, Hf, ρ, rs, er, h1, fun vs Hf' H' g' qq => ?_⟩
  obtain ⟨Hf2, g2, s2, d2⟩ := RRs.freeze er g' qq h3
  have hl : ds.length = n := by
    rw [← hn rs ⟨ρ, h1⟩]
    clear h5 qq d2 h1 h4 h2 hf
    induction rs generalizing ds with
    | nil => cases h3; rfl
    | cons r rs ih =>
      unfold frs at h3
      obtain ⟨x, e1, e2⟩ := Option.bind_eq_some_iff.mp h3
      obtain ⟨ys, e3, e4⟩ := Option.map_eq_some_iff.mp e2
      subst e4
      rw [List.length_cons, List.length_cons, ih ys e3]
  show spD K n F (vs ++ []) H' Q E
  rw [List.append_nil]
  exact ⟨Hf2, ds, d, ⟨g2.fh, g2.bn er.bn⟩, d2, hl, h5, fun v Hf3 H3 g3 dp => q v Hf3 H3 (g2.trans g3) dp⟩
/-- the number of written arguments -/
def ALen (fs : FA) (n : Nat) : Prop := ∀ rs, (∃ ρ, fs ρ = some rs) → rs.length = n
theorem al_nil : ALen aNil 0 := fun rs h => by
  obtain ⟨ρ, e⟩ := h
  cases e; rfl
theorem al_cons {fa : FE} (h : ALen fs n) : ALen (aCons fa fs) (n + 1) := fun rs q => by
  obtain ⟨ρ, e⟩ := q
  unfold aCons at e
  obtain ⟨x, h1, h2⟩ := Option.bind_eq_some_iff.mp e
  obtain ⟨y, h3, h4⟩ := Option.map_eq_some_iff.mp h2
  subst h4
  rw [List.length_cons, h y ⟨ρ, h3⟩]
theorem d_call (G : FnOk X.prog X.w X.K X.mg X.base CX0 k f fd ps (spD X.K n F)) (hr : Room k X.A) (hm : X.mg x = some (.ref f)) (hk : PySem.W.keepIn X.K (.ref f) = true) (hb : Binds X.K fd ps []) (ha : DA X (e :: es) fs) (hn : ALen fs n)
    (hg : Gl X x := by rfl) (hdb : (x == ("__debug__" : Str)) = false := by decide) (he : starEach (e :: es) X.env = (false, eval e X.env) :: starEach es X.env := by rfl) (hpl : (backTo pos (starEach es X.env)).any (·.1) = false := by rfl) :
    DE X (.Call (.Name x p) (e :: es) [] pos) (fCall F fs) := pe_mono (pe_call G hr hg hm hk hb .nil pass0 ha hdb he hpl) (ent_call hn)
end
end DL
/-! the combinators, turned into plain terms -/
namespace DL
open PySem PySem.Spec PyProof.Rows L2
@[simp] theorem ite_bind {α β : Type} {p : Prop} [Decidable p] (x y : Option α) (f : α → Option β) : (if p then x else y).bind f = if p then x.bind f else y.bind f := by split <;> rfl
@[simp] theorem ite_map {α β : Type} {p : Prop} [Decidable p] (x y : Option α) (f : α → β) : (if p then x else y).map f = if p then x.map f else y.map f := by split <;> rfl
section
variable {ρ : Rho} {f fa fb fc : FE} {fs : FA} {g g1 g2 : FS} {t u : Rho → Option Bool} {i j : Int} {a b : PyData} {r : Res} {xs ys : List PyData} {n k : Nat}
@[simp] theorem rd_fz : (Res.fz a).rd = a := (rfl)
@[simp] theorem rd_nw : (Res.nw xs).rd = .list xs := (rfl)
@[simp] theorem rd_br : (Res.br xs).rd = .list xs := (rfl)
@[simp] theorem fr_fz : (Res.fz a).fr = some a := (rfl)
@[simp] theorem fr_nw : (Res.nw xs).fr = some (.list xs) := (rfl)
@[simp] theorem fr_br : (Res.br xs).fr = none := (rfl)
def rdS : Option Slot → Option Res
  | some (.d x) => some (.fz x)
  | some (.own xs) => some (.br xs)
  | _ => none
@[simp] theorem rdS_d : rdS (some (.d a)) = some (.fz a) := (rfl)
@[simp] theorem rdS_own : rdS (some (.own xs)) = some (.br xs) := (rfl)
@[simp] theorem fVar_eq : fVar n ρ = rdS ρ[n]? := by
  unfold fVar rdS
  cases h : ρ[n]? with
  | none => rfl
  | some s => cases s <;> rfl
@[simp] theorem fC_eq : fC a ρ = some (.fz a) := (rfl)
@[simp] theorem f2_eq {h : PyData → PyData → Option Res} : f2 h fa fb ρ = (fa ρ).bind fun x => (fb ρ).bind fun y => h x.rd y.rd := (rfl)
@[simp] theorem f1_eq {h : PyData → Option Res} : f1 h fa ρ = (fa ρ).bind fun x => h x.rd := (rfl)
def toB : PyData → Option Bool
  | .bool b => some b
  | _ => none
@[simp] theorem toB_b {b : Bool} : toB (.bool b) = some b := (rfl)
@[simp] theorem fB_eq : fB f ρ = (f ρ).bind fun r => toB r.rd := by
  unfold fB
  congr 1
@[simp] theorem fTru_eq : fTru f ρ = (f ρ).bind fun r => tru r.rd := (rfl)
@[simp] theorem tru_none : tru .none = some false := (rfl)
@[simp] theorem tru_bool {b : Bool} : tru (.bool b) = some b := (rfl)
@[simp] theorem tru_int : tru (.int i) = some (i != 0) := (rfl)
@[simp] theorem tru_list : tru (.list xs) = some (!xs.isEmpty) := (rfl)
@[simp] theorem tru_tuple : tru (.tuple xs) = some (!xs.isEmpty) := (rfl)
@[simp] theorem tNotF_eq : tNotF t ρ = (t ρ).map (!·) := (rfl)
@[simp] theorem tAndF_eq : tAndF t u ρ = (t ρ).bind fun a => if a = true then u ρ else some false := (rfl)
@[simp] theorem tOrF_eq : tOrF t u ρ = (t ρ).bind fun a => if a = true then some true else u ρ := (rfl)
@[simp] theorem fAnd_eq : fAnd fa fb ρ = (fa ρ).bind fun a => (tru a.rd).bind fun k => if k = true then fb ρ else some a := (rfl)
@[simp] theorem fOr_eq : fOr fa fb ρ = (fa ρ).bind fun a => (tru a.rd).bind fun k => if k = true then some a else fb ρ := (rfl)
@[simp] theorem fNot_eq : fNot fa ρ = (fa ρ).bind fun a => (tru a.rd).map fun k => .fz (.bool (!k)) := (rfl)
@[simp] theorem fIf_eq : fIf t fa fb ρ = (t ρ).bind fun k => if k = true then fa ρ else fb ρ := (rfl)
@[simp] theorem aNil_eq : aNil ρ = some [] := (rfl)
@[simp] theorem aCons_eq : aCons f fs ρ = (f ρ).bind fun r => (fs ρ).map fun rs => r :: rs := (rfl)
@[simp] theorem frs_nil : frs [] = some [] := (rfl)
@[simp] theorem frs_cons {rs : List Res} : frs (r :: rs) = r.fr.bind fun x => (frs rs).map fun xs => x :: xs := (rfl)
@[simp] theorem fTup_eq : fTup fs ρ = (fs ρ).bind fun rs => (frs rs).bind fun xs => if small xs.length then some (.fz (.tuple xs)) else none := (rfl)
@[simp] theorem fLst_eq : fLst fs ρ = (fs ρ).bind fun rs => (frs rs).bind fun xs => if small xs.length then some (.nw xs) else none := (rfl)
@[simp] theorem gAdd_int : gAdd (.int i) (.int j) = some (.fz (.int (i + j))) := (rfl)
@[simp] theorem gAdd_list : gAdd (.list xs) (.list ys) = if small (xs.length + ys.length) then some (.nw (xs ++ ys)) else none := (rfl)
@[simp] theorem gAdd_tuple : gAdd (.tuple xs) (.tuple ys) = if small (xs.length + ys.length) then some (.fz (.tuple (xs ++ ys))) else none := (rfl)
@[simp] theorem gMinus_int : gMinus (.int i) (.int j) = some (.fz (.int (i - j))) := (rfl)
@[simp] theorem gDiv_int : gDiv (.int i) (.int j) = if 0 < j ∧ j < 2 ^ 200 then some (.fz (.int (i / j))) else none := (rfl)
@[simp] theorem gMod_int : gMod (.int i) (.int j) = if 0 < j then some (.fz (.int (i % j))) else none := (rfl)
@[simp] theorem gPow_int : gPow (.int i) (.int j) = if 0 ≤ j ∧ j ≤ 1000000 ∧ i.natAbs < 2 ^ 64 then some (.fz (.int (i ^ j.toNat))) else none := (rfl)
@[simp] theorem gMul_int : gMul (.int i) (.int j) = if CMul i j then some (.fz (.int (i * j))) else none := (rfl)
@[simp] theorem gMul_tuple : gMul (.tuple xs) (.int j) = if xs ≠ [] ∧ 2 ≤ j ∧ j ≤ 1000 ∧ xs.length ≤ 1000 then some (.fz (.tuple (List.replicate j.toNat xs).flatten)) else none := (rfl)
@[simp] theorem gLt_int : gLt (.int i) (.int j) = some (.fz (.bool (decide (i < j)))) := (rfl)
@[simp] theorem gLe_int : gLe (.int i) (.int j) = some (.fz (.bool (decide (i ≤ j)))) := (rfl)
@[simp] theorem gGt_int : gGt (.int i) (.int j) = some (.fz (.bool (decide (j < i)))) := (rfl)
@[simp] theorem gGe_int : gGe (.int i) (.int j) = some (.fz (.bool (decide (j ≤ i)))) := (rfl)
@[simp] theorem gNeg_int : gNeg (.int i) = some (.fz (.int (-i))) := (rfl)
@[simp] theorem shaped_none : SeqAt.shaped .none = true := by simp [SeqAt.shaped, PyData.canLay0, PyData.depth]
@[simp] theorem shaped_bool {b : Bool} : SeqAt.shaped (.bool b) = true := by simp [SeqAt.shaped, PyData.canLay0, PyData.depth]
@[simp] theorem shaped_int : SeqAt.shaped (.int i) = true := by simp [SeqAt.shaped, PyData.canLay0, PyData.depth]
@[simp] theorem eqv_int : PyData.eqv (.int i) (.int j) = decide (i = j) := by
  rw [PyData.eqv]; exact Bool.beq_eq_decide_eq _ _
@[simp] theorem eqv_bool {b c : Bool} : PyData.eqv (.bool b) (.bool c) = decide (b = c) := by
  rw [PyData.eqv]; exact Bool.beq_eq_decide_eq _ _
@[simp] theorem eqv_none : PyData.eqv .none .none = true := by rw [PyData.eqv]
@[simp] theorem gEq_eq : gEq a b = if SeqAt.shaped a = true ∧ SeqAt.shaped b = true then some (.fz (.bool (PyData.eqv a b))) else none := (rfl)
@[simp] theorem gNe_eq : gNe a b = if SeqAt.shaped a = true ∧ SeqAt.shaped b = true then some (.fz (.bool (!PyData.eqv a b))) else none := (rfl)
@[simp] theorem gIs_none : gIs a .none = some (.fz (.bool (isNone a))) := by cases a <;> rfl
@[simp] theorem gIs_bool {x y : Bool} : gIs (.bool x) (.bool y) = some (.fz (.bool (decide (x = y)))) := (rfl)
@[simp] theorem gIsNot_none : gIsNot a .none = some (.fz (.bool (!isNone a))) := by cases a <;> rfl
@[simp] theorem gIsNot_bool {x y : Bool} : gIsNot (.bool x) (.bool y) = some (.fz (.bool (!decide (x = y)))) := (rfl)
@[simp] theorem isNone_none : isNone .none = true := (rfl)
@[simp] theorem isNone_int : isNone (.int i) = false := (rfl)
@[simp] theorem isNone_bool {x : Bool} : isNone (.bool x) = false := (rfl)
@[simp] theorem isNone_list : isNone (.list xs) = false := (rfl)
@[simp] theorem isNone_tuple : isNone (.tuple xs) = false := (rfl)
@[simp] theorem flatD_int : flatD (.int i) = true := (rfl)
@[simp] theorem gIn_list {ng : Bool} : gIn ng a (.list ys) = if flatD a = true ∧ ys.all flatD = true then some (.fz (.bool (if ng then !inD a ys else inD a ys))) else none := by cases a <;> rfl
@[simp] theorem gIn_tuple {ng : Bool} : gIn ng a (.tuple ys) = if flatD a = true ∧ ys.all flatD = true then some (.fz (.bool (if ng then !inD a ys else inD a ys))) else none := by cases a <;> rfl
@[simp] theorem gIx_list : gIx (.list xs) (.int i) = (atI xs i).map .fz := (rfl)
@[simp] theorem gIx_tuple : gIx (.tuple xs) (.int i) = (atI xs i).map .fz := (rfl)
@[simp] theorem oNone_eq : oNone ρ = some none := (rfl)
def toI : PyData → Option (Option Int)
  | .int i => some (some i)
  | _ => none
@[simp] theorem toI_i : toI (.int i) = some (some i) := (rfl)
@[simp] theorem oSome_eq : oSome f ρ = (f ρ).bind fun r => toI r.rd := by
  unfold oSome
  congr 1
@[simp] theorem fSl_eq {o1 o2 : Rho → Option (Option Int)} : fSl fa o1 o2 ρ = (fa ρ).bind fun a => (o1 ρ).bind fun lo => (o2 ρ).bind fun hi => gSl a.rd lo hi := (rfl)
@[simp] theorem gSl_list {lo hi : Option Int} : gSl (.list xs) lo hi = some (.nw (cutD xs lo hi)) := (rfl)
@[simp] theorem gSl_tuple {lo hi : Option Int} : gSl (.tuple xs) lo hi = some (.fz (.tuple (cutD xs lo hi))) := (rfl)
@[simp] theorem gRev_list : gRev (.list xs) = some (.nw xs.reverse) := (rfl)
@[simp] theorem gRev_tuple : gRev (.tuple xs) = some (.fz (.tuple xs.reverse)) := (rfl)
@[simp] theorem fC1_eq {h : List PyData → Option Res} : fC1 h fs ρ = (fs ρ).bind fun rs => h (rs.map Res.rd) := (rfl)
@[simp] theorem gLen_list : gLen [.list xs] = some (.fz (.int xs.length)) := (rfl)
@[simp] theorem gLen_tuple : gLen [.tuple xs] = some (.fz (.int xs.length)) := (rfl)
@[simp] theorem gAbs_int : gAbs [.int i] = some (.fz (.int (if i < 0 then -i else i))) := (rfl)
@[simp] theorem gInt_int : gInt [.int i] = some (.fz (.int i)) := (rfl)
@[simp] theorem gInt_bool {b : Bool} : gInt [.bool b] = some (.fz (.int (if b then 1 else 0))) := (rfl)
@[simp] theorem gTuple_list : gTuple [.list xs] = some (.fz (.tuple xs)) := (rfl)
@[simp] theorem gTuple_tuple : gTuple [.tuple xs] = some (.fz (.tuple xs)) := (rfl)
@[simp] theorem gList_list : gList [.list xs] = some (.nw xs) := (rfl)
@[simp] theorem gList_tuple : gList [.tuple xs] = some (.nw xs) := (rfl)
@[simp] theorem gSum_list : gSum [.list xs] = (intsOf xs).map fun ns => .fz (.int ns.sum) := (rfl)
@[simp] theorem gAll_list : gAll [.list xs] = (boolsOf xs).map fun ns => .fz (.bool (ns.all id)) := (rfl)
@[simp] theorem gAny_list : gAny [.list xs] = (boolsOf xs).map fun ns => .fz (.bool (ns.any id)) := (rfl)
@[simp] theorem gMin_list : gMin [.list xs] = (intsOf xs).bind fun ns => if ns = [] then none else some (.fz (.int (minL ns))) := (rfl)
@[simp] theorem gMax_list : gMax [.list xs] = (intsOf xs).bind fun ns => if ns = [] then none else some (.fz (.int (maxL ns))) := (rfl)
@[simp] theorem gMin_two : gMin [.int i, .int j] = some (.fz (.int (if j < i then j else i))) := (rfl)
@[simp] theorem gMax_two : gMax [.int i, .int j] = some (.fz (.int (if j > i then j else i))) := (rfl)
@[simp] theorem intsOf_m {ns : List Int} : intsOf (ns.map PyData.int) = some ns := intsOf_map ns
@[simp] theorem boolsOf_m {ns : List Bool} : boolsOf (ns.map PyData.bool) = some ns := boolsOf_map ns
theorem kit_ii : kitB "int" "int" = some true := by decide +kernel
theorem kit_bi : kitB "bool" "int" = some true := by decide +kernel
theorem kit_ni : kitB "NoneType" "int" = some false := by decide +kernel
theorem kit_li : kitB "list" "int" = some false := by decide +kernel
theorem kit_ti : kitB "tuple" "int" = some false := by decide +kernel
theorem kit_ib : kitB "int" "bool" = some false := by decide +kernel
theorem kit_bb : kitB "bool" "bool" = some true := by decide +kernel
theorem kit_nb : kitB "NoneType" "bool" = some false := by decide +kernel
theorem kit_lb : kitB "list" "bool" = some false := by decide +kernel
theorem kit_tb : kitB "tuple" "bool" = some false := by decide +kernel
theorem kit_it : kitB "int" "tuple" = some false := by decide +kernel
theorem kit_bt : kitB "bool" "tuple" = some false := by decide +kernel
theorem kit_nt : kitB "NoneType" "tuple" = some false := by decide +kernel
theorem kit_lt : kitB "list" "tuple" = some false := by decide +kernel
theorem kit_tt : kitB "tuple" "tuple" = some true := by decide +kernel
theorem kit_il : kitB "int" "list" = some false := by decide +kernel
theorem kit_bl : kitB "bool" "list" = some false := by decide +kernel
theorem kit_nl : kitB "NoneType" "list" = some false := by decide +kernel
theorem kit_ll : kitB "list" "list" = some true := by decide +kernel
theorem kit_tl : kitB "tuple" "list" = some false := by decide +kernel
def isI : PyData → Bool | .int _ => true | .bool _ => true | _ => false
def isB : PyData → Bool | .bool _ => true | _ => false
def isT : PyData → Bool | .tuple _ => true | _ => false
def isL : PyData → Bool | .list _ => true | _ => false
/-- plain data of the kinds met here -/
def okD : PyData → Bool | .str _ => false | .dict _ => false | _ => true
theorem gIsi_int (h : okD a = true) : gIsi "int" a = some (.fz (.bool (isI a))) := by
  cases a <;> first
    | (exact absurd h Bool.false_ne_true)
    | (unfold gIsi kindS; simp only [kit_ii, kit_bi, kit_ni, kit_li, kit_ti]; rfl)
theorem gIsi_bool (h : okD a = true) : gIsi "bool" a = some (.fz (.bool (isB a))) := by
  cases a <;> first
    | (exact absurd h Bool.false_ne_true)
    | (unfold gIsi kindS; simp only [kit_ib, kit_bb, kit_nb, kit_lb, kit_tb]; rfl)
theorem gIsi_tuple (h : okD a = true) : gIsi "tuple" a = some (.fz (.bool (isT a))) := by
  cases a <;> first
    | (exact absurd h Bool.false_ne_true)
    | (unfold gIsi kindS; simp only [kit_it, kit_bt, kit_nt, kit_lt, kit_tt]; rfl)
theorem gIsi_list (h : okD a = true) : gIsi "list" a = some (.fz (.bool (isL a))) := by
  cases a <;> first
    | (exact absurd h Bool.false_ne_true)
    | (unfold gIsi kindS; simp only [kit_il, kit_bl, kit_nl, kit_ll, kit_tl]; rfl)
@[simp] theorem isi_ii : gIsi "int" (.int i) = some (.fz (.bool true)) := gIsi_int rfl
@[simp] theorem isi_bi {b : Bool} : gIsi "int" (.bool b) = some (.fz (.bool true)) := gIsi_int rfl
@[simp] theorem isi_ni : gIsi "int" .none = some (.fz (.bool false)) := gIsi_int rfl
@[simp] theorem isi_li : gIsi "int" (.list xs) = some (.fz (.bool false)) := gIsi_int rfl
@[simp] theorem isi_ti : gIsi "int" (.tuple xs) = some (.fz (.bool false)) := gIsi_int rfl
@[simp] theorem isi_ib : gIsi "bool" (.int i) = some (.fz (.bool false)) := gIsi_bool rfl
@[simp] theorem isi_bb {b : Bool} : gIsi "bool" (.bool b) = some (.fz (.bool true)) := gIsi_bool rfl
@[simp] theorem isi_nb : gIsi "bool" .none = some (.fz (.bool false)) := gIsi_bool rfl
@[simp] theorem isi_lb : gIsi "bool" (.list xs) = some (.fz (.bool false)) := gIsi_bool rfl
@[simp] theorem isi_tb : gIsi "bool" (.tuple xs) = some (.fz (.bool false)) := gIsi_bool rfl
@[simp] theorem isi_it : gIsi "tuple" (.int i) = some (.fz (.bool false)) := gIsi_tuple rfl
@[simp] theorem isi_bt {b : Bool} : gIsi "tuple" (.bool b) = some (.fz (.bool false)) := gIsi_tuple rfl
@[simp] theorem isi_nt : gIsi "tuple" .none = some (.fz (.bool false)) := gIsi_tuple rfl
@[simp] theorem isi_lt : gIsi "tuple" (.list xs) = some (.fz (.bool false)) := gIsi_tuple rfl
@[simp] theorem isi_tt : gIsi "tuple" (.tuple xs) = some (.fz (.bool true)) := gIsi_tuple rfl
@[simp] theorem isi_il : gIsi "list" (.int i) = some (.fz (.bool false)) := gIsi_list rfl
@[simp] theorem isi_bl {b : Bool} : gIsi "list" (.bool b) = some (.fz (.bool false)) := gIsi_list rfl
@[simp] theorem isi_nl : gIsi "list" .none = some (.fz (.bool false)) := gIsi_list rfl
@[simp] theorem isi_ll : gIsi "list" (.list xs) = some (.fz (.bool true)) := gIsi_list rfl
@[simp] theorem isi_tl : gIsi "list" (.tuple xs) = some (.fz (.bool false)) := gIsi_list rfl
def itS : Res → Option (List PyData)
  | .fz (.list xs) => some xs
  | .fz (.tuple xs) => some xs
  | .nw xs => some xs
  | _ => none
@[simp] theorem itS_l : itS (.fz (.list xs)) = some xs := (rfl)
@[simp] theorem itS_t : itS (.fz (.tuple xs)) = some xs := (rfl)
@[simp] theorem itS_n : itS (.nw xs) = some xs := (rfl)
@[simp] theorem itF_eq : itF f ρ = (f ρ).bind itS := by
  unfold itF
  congr 1
def itQ : PyData → Option (List PyData)
  | .list xs => some xs
  | .tuple xs => some xs
  | _ => none
@[simp] theorem itQ_l : itQ (.list xs) = some xs := (rfl)
@[simp] theorem itQ_t : itQ (.tuple xs) = some xs := (rfl)
@[simp] theorem itR_eq : itR f ρ = (f ρ).bind fun r => itQ r.rd := by
  unfold itR
  congr 1
def rgS : List PyData → Option (List PyData)
  | [.int j] => if -(2 ^ 62) ≤ j ∧ j < 2 ^ 62 then some (rgD 0 j.toNat) else none
  | [.int i, .int j] => if -(2 ^ 62) ≤ i ∧ i < 2 ^ 62 ∧ -(2 ^ 62) ≤ j ∧ j < 2 ^ 62 then some (rgD i (j - i).toNat) else none
  | _ => none
theorem rgS_1 : rgS [.int j] = if -(2 ^ 62) ≤ j ∧ j < 2 ^ 62 then some (rgD 0 j.toNat) else none := rfl
theorem rgS_2 : rgS [.int i, .int j] = if -(2 ^ 62) ≤ i ∧ i < 2 ^ 62 ∧ -(2 ^ 62) ≤ j ∧ j < 2 ^ 62 then some (rgD i (j - i).toNat) else none := rfl
def rg1S : List PyData → Option (List PyData)
  | [.int j] => if -(2 ^ 62) ≤ j ∧ j < 2 ^ 62 then some (rgD 0 j.toNat) else none
  | _ => none
def rg2S : List PyData → Option (List PyData)
  | [.int i, .int j] => if -(2 ^ 62) ≤ i ∧ i < 2 ^ 62 ∧ -(2 ^ 62) ≤ j ∧ j < 2 ^ 62 then some (rgD i (j - i).toNat) else none
  | _ => none
theorem rg1S_1 : rg1S [.int j] = if -(2 ^ 62) ≤ j ∧ j < 2 ^ 62 then some (rgD 0 j.toNat) else none := rfl
theorem rg2S_2 : rg2S [.int i, .int j] = if -(2 ^ 62) ≤ i ∧ i < 2 ^ 62 ∧ -(2 ^ 62) ≤ j ∧ j < 2 ^ 62 then some (rgD i (j - i).toNat) else none := rfl
theorem rg1_ok (h : 0 ≤ j) (h2 : j ≤ 1000000) : rg1S [.int j] = some (rgD 0 j.toNat) := by
  rw [rg1S_1, if_pos ⟨by omega, by omega⟩]
theorem rg1_nat {m : Nat} (h2 : m ≤ 1000000) : rg1S [.int (m : Int)] = some (rgD 0 m) := by
  rw [rg1_ok (by omega) (by omega), Int.toNat_natCast]
theorem rg2_ok (h : 0 ≤ i) (h2 : i ≤ 1000000) (h3 : 0 ≤ j) (h4 : j ≤ 1000000) : rg2S [.int i, .int j] = some (rgD i (j - i).toNat) := by
  rw [rg2S_2, if_pos ⟨by omega, by omega, by omega, by omega⟩]
@[simp] theorem rg1_eq : rg1 fs ρ = (fs ρ).bind fun rs => rg1S (rs.map Res.rd) := by
  unfold rg1
  congr 1
@[simp] theorem rg2_eq : rg2 fs ρ = (fs ρ).bind fun rs => rg2S (rs.map Res.rd) := by
  unfold rg2
  congr 1
def enS : List Res → Option (List PyData)
  | [.fz (.list xs)] => some (enD 0 xs)
  | [.nw xs] => some (enD 0 xs)
  | _ => none
@[simp] theorem enS_l : enS [.fz (.list xs)] = some (enD 0 xs) := (rfl)
@[simp] theorem enS_n : enS [.nw xs] = some (enD 0 xs) := (rfl)
@[simp] theorem enF_eq : enF fs ρ = (fs ρ).bind enS := by
  unfold enF
  congr 1
@[simp] theorem uName_eq : uName n a ρ = some (ρ.set n (.d a)) := (rfl)
@[simp] theorem uNil_eq : uNil [] ρ = some ρ := (rfl)
@[simp] theorem uCons_eq {us : FUs} {u : FU} : uCons u us (a :: xs) ρ = (u a ρ).bind fun ρ1 => us xs ρ1 := (rfl)
@[simp] theorem uTup_t {us : FUs} : uTup n us (.tuple xs) ρ = if xs.length = n then us xs ρ else none := (rfl)
@[simp] theorem uTup_l {us : FUs} : uTup n us (.list xs) ρ = if xs.length = n then us xs ρ else none := (rfl)
@[simp] theorem cYes_eq : cYes ρ = some true := (rfl)
@[simp] theorem gNil_eq : gNil ρ = some (.nx ρ) := (rfl)
def thn' (g : FS) : Out → Option Out
  | .nx ρ' => g ρ'
  | o => some o
@[simp] theorem thn_nx : thn' g (.nx ρ) = g ρ := (rfl)
@[simp] theorem thn_rt : thn' g (.rt a) = some (.rt a) := (rfl)
@[simp] theorem thn_bk : thn' g (.bk ρ) = some (.bk ρ) := (rfl)
@[simp] theorem thn_ex {x : Str} : thn' g (.ex x ρ) = some (.ex x ρ) := (rfl)
@[simp] theorem thn_ct : thn' g (.ct ρ) = some (.ct ρ) := (rfl)
@[simp] theorem gSeq_eq : gSeq g1 g2 ρ = (g1 ρ).bind (thn' g2) := by
  unfold gSeq
  congr 1
@[simp] theorem gBk_eq : gBk ρ = some (.bk ρ) := (rfl)
@[simp] theorem gCt_eq : gCt ρ = some (.ct ρ) := (rfl)
@[simp] theorem gRet_eq : gRet f ρ = (f ρ).map fun r => .rt r.rd := (rfl)
@[simp] theorem gRetN_eq : gRetN ρ = some (.rt .none) := (rfl)
@[simp] theorem gIf_eq : gIf t g1 g2 ρ = (t ρ).bind fun b => if b = true then g1 ρ else g2 ρ := (rfl)
@[simp] theorem gDrop_eq : gDrop f ρ = (f ρ).map fun _ => .nx ρ := (rfl)
@[simp] theorem gSet_eq : gSet n f ρ = (f ρ).bind fun r => r.fr.map fun d => .nx (ρ.set n (.d d)) := (rfl)
def ownS : Res → Option Slot
  | .nw xs => some (.own xs)
  | .fz d => some (.d d)
  | .br _ => none
@[simp] theorem ownS_n : ownS (.nw xs) = some (.own xs) := (rfl)
@[simp] theorem ownS_f : ownS (.fz a) = some (.d a) := (rfl)
@[simp] theorem gSetO_eq : gSetO n f ρ = (f ρ).bind fun r => (ownS r).map fun s => .nx (ρ.set n s) := by
  unfold gSetO
  congr 1
  funext r
  cases r <;> rfl
@[simp] theorem gAsg_eq {u : FU} : gAsg u f ρ = (f ρ).bind fun r => r.fr.bind fun d => (u d ρ).map .nx := (rfl)
def parS (n k : Nat) (ρ : Rho) : List PyData → Option Out
  | [x, y] => some (.nx ((ρ.set n (.d x)).set k (.d y)))
  | _ => none
@[simp] theorem parS_2 : parS n k ρ [a, b] = some (.nx ((ρ.set n (.d a)).set k (.d b))) := (rfl)
@[simp] theorem gPar_eq : gPar n k fs ρ = (fs ρ).bind fun rs => (frs rs).bind (parS n k ρ) := by
  unfold gPar
  congr 1
def augS : Option Slot → Option PyData
  | some (.d x) => some x
  | _ => none
@[simp] theorem augS_d : augS (some (.d a)) = some a := (rfl)
@[simp] theorem gAug_eq {h : PyData → PyData → Option PyData} : gAug n h f ρ = (augS ρ[n]?).bind fun x => (f ρ).bind fun r => (h x r.rd).map fun d => .nx (ρ.set n (.d d)) := by
  unfold gAug augS
  cases hs : ρ[n]? with
  | none => rfl
  | some s => cases s <;> rfl
@[simp] theorem hAdd_int : hAdd (.int i) (.int j) = some (.int (i + j)) := (rfl)
@[simp] theorem hSub_int : hSub (.int i) (.int j) = some (.int (i - j)) := (rfl)
def ownL : Option Slot → Option (List PyData)
  | some (.own xs) => some xs
  | _ => none
@[simp] theorem ownL_o : ownL (some (.own xs)) = some xs := (rfl)
@[simp] theorem gApp_eq : gApp n f ρ = (ownL ρ[n]?).bind fun xs => (f ρ).bind fun r => r.fr.bind fun d => if small xs.length then some (.nx (ρ.set n (.own (xs ++ [d])))) else none := by
  unfold gApp ownL
  cases hs : ρ[n]? with
  | none => rfl
  | some s => cases s <;> rfl
def putS (n : Nat) (ρ : Rho) (d : PyData) : PyData → Option Out
  | .int m => (ownL ρ[n]?).bind fun xs => (ixN xs.length m).map fun q => .nx (ρ.set n (.own (xs.set q d)))
  | _ => none
@[simp] theorem putS_i : putS n ρ a (.int j) = (ownL ρ[n]?).bind fun xs => (ixN xs.length j).map fun q => .nx (ρ.set n (.own (xs.set q a))) := (rfl)
@[simp] theorem gPut_eq : gPut n fb f ρ = (f ρ).bind fun r => r.fr.bind fun d => (fb ρ).bind fun j => putS n ρ d j.rd := by
  unfold gPut
  congr 1
  funext r
  congr 1
  funext d
  congr 1
  funext j
  unfold putS ownL
  cases hs : ρ[n]? with
  | none => cases j.rd <;> rfl
  | some s => cases s <;> cases j.rd <;> rfl
def endS : Out → Option PyData
  | .rt d => some d
  | .nx _ => some .none
  | _ => none
@[simp] theorem endS_r : endS (.rt a) = some a := (rfl)
@[simp] theorem endS_n : endS (.nx ρ) = some .none := (rfl)
theorem runD_eq : runD n g xs = (g (startR n xs)).bind endS := by
  unfold runD
  congr 1
@[simp] theorem startR_eq : startR n xs = xs.map Slot.d ++ List.replicate (n - xs.length) .und := (rfl)
@[simp] theorem fCall_eq {F : FD} : fCall F fs ρ = (fs ρ).bind fun rs => (frs rs).bind fun ds => (F ds).map .fz := (rfl)
@[simp] theorem gFor_eq {it : Rho → Option (List PyData)} {u : FU} : gFor it u g ρ = (it ρ).bind fun xs => forD u g xs ρ := (rfl)
@[simp] theorem fLc_eq {it : Rho → Option (List PyData)} {vs : List Nat} : fLc it n t f vs ρ = (it ρ).bind fun xs => if small xs.length then (lcD n t f (wipeR ρ vs) xs).map fun ds => .nw ds else none := (rfl)
@[simp] theorem wipeR_nil : wipeR ρ [] = ρ := (rfl)
@[simp] theorem wipeR_cons {vs : List Nat} : wipeR ρ (n :: vs) = (wipeR ρ vs).set n .und := (rfl)
/-- a comprehension, item by item -/
def flG (c : PyData → Bool) (h : PyData → PyData) (xs : List PyData) : List PyData := (xs.filter c).map h
theorem lcD_map {c : PyData → Bool} {h : PyData → PyData} : ∀ {xs : List PyData}, (∀ x ∈ xs, t (ρ.set n (.d x)) = some (c x)) → (∀ x ∈ xs, c x = true → (f (ρ.set n (.d x))).bind Res.fr = some (h x)) → lcD n t f ρ xs = some ((xs.filter c).map h)
  | [], _, _ => rfl
  | x :: xs, h1, h2 => by
    have ih := lcD_map (xs := xs) (fun y hy => h1 y (List.mem_cons_of_mem _ hy)) (fun y hy => h2 y (List.mem_cons_of_mem _ hy))
    unfold lcD
    rw [h1 x List.mem_cons_self, Option.bind_some]
    cases hc : c x with
    | true =>
      have q := h2 x List.mem_cons_self hc
      obtain ⟨r, e1, e2⟩ := Option.bind_eq_some_iff.mp q
      rw [if_pos rfl, e1, Option.bind_some, e2, Option.bind_some, ih, List.filter_cons, if_pos hc]
      rfl
    | false =>
      rw [if_neg Bool.false_ne_true, ih, List.filter_cons, if_neg (by rw [hc]; exact Bool.false_ne_true)]
end
@[simp] theorem gFrz_eq {i : Nat} {g : FS} {ρ : Rho} : gFrz i g ρ = g (frz i ρ) := (rfl)
theorem frz_own {i : Nat} {ρ : Rho} {xs : List PyData} (h : ρ[i]? = some (.own xs)) : frz i ρ = ρ.set i (.d (.list xs)) := by
  unfold frz
  rw [h]
/-! ### the law's own end -/
def spLaw (K : PySem.W.Frag) : Sp := fun vs H Q _ => ∃ (a : Addr) (ns : List Int), vs = [.ref a] ∧ SqL K H a (ns.map V.int) ∧ ns.length ≤ 63 ∧ ∀ H', Q (.bl true) H'
/-- of a heap the list at a alone -/
def onlyL : Option HO → Option HO
  | some (.lst xs) => some (.lst xs)
  | some (.frz o (.lst xs)) => some (.frz o (.lst xs))
  | _ => none
def onlyAt (H : Hp) (a : Addr) : Hp := fun b => if b = a then onlyL (H a) else none
theorem onlyAt_some {H : Hp} {a b : Addr} {o : HO} (h : onlyAt H a b = some o) : b = a ∧ onlyL (H a) = some o := by
  unfold onlyAt at h
  split at h
  · exact ⟨by assumption, h⟩
  · cases h
theorem onlyL_some {x : Option HO} {o : HO} (h : onlyL x = some o) : x = some o := by
  unfold onlyL at h
  split at h
  · exact h
  · exact h
  · cases h
theorem onlyL_tup {x : Option HO} {xs : List V} (h : onlyL x = some (.tup xs)) : False := by
  unfold onlyL at h
  split at h <;> cases h
theorem onlyL_frz {x : Option HO} {ob : Obj} {xs : List V} (h : onlyL x = some (.frz ob (.tup xs))) : False := by
  unfold onlyL at h
  split at h <;> cases h
theorem law_of {P : Program} {w : World} {K : PySem.W.Frag} {mg : Str → Option Value} {base : Heap} {CX : CXT} {k : Nat} {f : Addr} {fd : FuncData} {F : FD} (h : FnOk P w K mg base CX k f fd ["script"] (spD K 1 F))
    (e : ∀ ns : List Int, ns.length ≤ 63 → F [.list (ns.map PyData.int)] = some (.bool true)) : FnOk P w K mg base CX k f fd ["script"] (spLaw K) :=
  h.imp fun vs H Q E q => by
    obtain ⟨a, ns, rfl, hS, hl, k⟩ := q
    have hs : Same (onlyAt H a) H := fun b o q => by
      obtain ⟨rfl, q⟩ := onlyAt_some q
      exact onlyL_some q
    have hb : Bn (onlyAt H a) := ⟨fun b xs q => onlyL_tup (onlyAt_some q).2, fun b ob xs q => (onlyL_frz (onlyAt_some q).2).elim⟩
    have hf : SqL K (onlyAt H a) a (ns.map V.int) := by
      rcases hS with hS | hS
      · refine .inl ?_
        rcases hS with hS | ⟨o, hS⟩
        · exact .inl (by unfold onlyAt; rw [if_pos rfl, hS]; rfl)
        · exact .inr ⟨o, by unfold onlyAt; rw [if_pos rfl, hS]; rfl⟩
      · exact .inr hS
    refine ⟨onlyAt H a, [.list (ns.map PyData.int)], .bool true, ⟨hs, hb⟩, .cons (.lst hf (dpa_ints ns)) .nil, rfl, e ns hl, fun v Hf' H' g d => ?_⟩
    cases d
    exact k H'
/-- a def that is never asked -/
theorem fn_none {P : Program} {w : World} {K : PySem.W.Frag} {mg : Str → Option Value} {base : Heap} {CX : CXT} {k n : Nat} {f : Addr} {fd : FuncData} {ps : List Str} : FnOk P w K mg base CX k f fd ps (spD K n (fun _ => none)) :=
  have no : ∀ vs H Q E, ¬ spD K n (fun _ => none) vs H Q E := fun vs H Q E h => by
    obtain ⟨_, _, _, _, _, _, h4, _⟩ := h
    cases h4
  ⟨fun vs H Q E h => absurd h (no vs H Q E), fun A outer s H args us vs Q E _ _ _ _ h => absurd h (no vs H Q E)⟩
/-- a word of ints as data -/
abbrev wd (ws : List Int) : PyData := .tuple (ws.map PyData.int)
end DL
namespace DL
open PySem PySem.Spec PyProof.Rows L2
section
variable {ρ : Rho} {g : FS} {u : FU} {t : Rho → Option Bool}
/-- a loop that goes through -/
theorem forD_inv {xs : List PyData} (P : Nat → Rho → Prop) (h0 : P 0 ρ) (hs : ∀ i x ρ, xs[i]? = some x → P i ρ → ∃ ρ1 ρ2, u x ρ = some ρ1 ∧ (g ρ1 = some (.nx ρ2) ∨ g ρ1 = some (.ct ρ2)) ∧ P (i + 1) ρ2) :
    ∃ ρ', forD u g xs ρ = some (.nx ρ') ∧ P xs.length ρ' := by
  induction xs generalizing ρ P with
  | nil => exact ⟨ρ, rfl, h0⟩
  | cons x xs ih =>
    obtain ⟨ρ1, ρ2, e1, e2, p⟩ := hs 0 x ρ rfl h0
    obtain ⟨ρ', e3, p'⟩ := ih (fun i => P (i + 1)) p fun i y ρ0 hy hp => hs (i + 1) y ρ0 (by simpa using hy) hp
    refine ⟨ρ', ?_, p'⟩
    unfold forD
    rw [e1, Option.bind_some]
    rcases e2 with e2 | e2 <;> rw [e2, Option.bind_some] <;> exact e3
/-- a loop that goes through or returns -/
theorem forD_inv' {xs : List PyData} (P : Nat → Rho → Prop) (R : PyData → Prop) (h0 : P 0 ρ) (hs : ∀ i x ρ, xs[i]? = some x → P i ρ → ∃ ρ1, u x ρ = some ρ1 ∧ ((∃ ρ2, (g ρ1 = some (.nx ρ2) ∨ g ρ1 = some (.ct ρ2)) ∧ P (i + 1) ρ2) ∨ ∃ d, g ρ1 = some (.rt d) ∧ R d)) :
    (∃ ρ', forD u g xs ρ = some (.nx ρ') ∧ P xs.length ρ') ∨ ∃ d, forD u g xs ρ = some (.rt d) ∧ R d := by
  induction xs generalizing ρ P with
  | nil => exact .inl ⟨ρ, rfl, h0⟩
  | cons x xs ih =>
    obtain ⟨ρ1, e1, h⟩ := hs 0 x ρ rfl h0
    rcases h with ⟨ρ2, e2, p⟩ | ⟨d, e2, p⟩
    · rcases ih (fun i => P (i + 1)) p fun i y ρ0 hy hp => hs (i + 1) y ρ0 (by simpa using hy) hp with ⟨ρ', e3, p'⟩ | ⟨d, e3, p'⟩
      · refine .inl ⟨ρ', ?_, p'⟩
        unfold forD
        rw [e1, Option.bind_some]
        rcases e2 with e2 | e2 <;> rw [e2, Option.bind_some] <;> exact e3
      · refine .inr ⟨d, ?_, p'⟩
        unfold forD
        rw [e1, Option.bind_some]
        rcases e2 with e2 | e2 <;> rw [e2, Option.bind_some] <;> exact e3
    · refine .inr ⟨d, ?_, p⟩
      unfold forD
      rw [e1, Option.bind_some, e2]
      rfl
theorem forD_then {β : Type} {xs : List PyData} {k : Out → Option β} {r : Option β} (P : Nat → Rho → Prop) (h0 : P 0 ρ) (hs : ∀ i x ρ, xs[i]? = some x → P i ρ → ∃ ρ1 ρ2, u x ρ = some ρ1 ∧ (g ρ1 = some (.nx ρ2) ∨ g ρ1 = some (.ct ρ2)) ∧ P (i + 1) ρ2)
    (hk : ∀ ρ', P xs.length ρ' → k (.nx ρ') = r) : (forD u g xs ρ).bind k = r := by
  obtain ⟨ρ', e, p⟩ := forD_inv P h0 hs
  rw [e]
  exact hk ρ' p
theorem forD_then' {β : Type} {xs : List PyData} {k : Out → Option β} {r : Option β} (P : Nat → Rho → Prop) (R : PyData → Prop) (h0 : P 0 ρ) (hs : ∀ i x ρ, xs[i]? = some x → P i ρ → ∃ ρ1, u x ρ = some ρ1 ∧ ((∃ ρ2, (g ρ1 = some (.nx ρ2) ∨ g ρ1 = some (.ct ρ2)) ∧ P (i + 1) ρ2) ∨ ∃ d, g ρ1 = some (.rt d) ∧ R d))
    (hk : ∀ ρ', P xs.length ρ' → k (.nx ρ') = r) (hr : ∀ d, R d → k (.rt d) = r) : (forD u g xs ρ).bind k = r := by
  rcases forD_inv' P R h0 hs with ⟨ρ', e, p⟩ | ⟨d, e, p⟩
  · rw [e]; exact hk ρ' p
  · rw [e]; exact hr d p
/-- a turn goes on (P) or returns (R) -/
def Goes (P : Rho → Prop) (R : PyData → Prop) : Option Out → Prop
  | some (.nx ρ) => P ρ
  | some (.ct ρ) => P ρ
  | some (.rt d) => R d
  | _ => False
@[simp] theorem goes_nx {P : Rho → Prop} {R : PyData → Prop} : Goes P R (some (.nx ρ)) = P ρ := (rfl)
@[simp] theorem goes_ct {P : Rho → Prop} {R : PyData → Prop} : Goes P R (some (.ct ρ)) = P ρ := (rfl)
@[simp] theorem goes_rt {P : Rho → Prop} {R : PyData → Prop} {d : PyData} : Goes P R (some (.rt d)) = R d := (rfl)
theorem forD_go {β : Type} {xs : List PyData} {k : Out → Option β} {r : Option β} (P : Nat → Rho → Prop) (R : PyData → Prop) (h0 : P 0 ρ) (hs : ∀ i x ρ, xs[i]? = some x → P i ρ → Goes (P (i + 1)) R ((u x ρ).bind g))
    (hk : ∀ ρ', P xs.length ρ' → k (.nx ρ') = r) (hr : ∀ d, R d → k (.rt d) = r) : (forD u g xs ρ).bind k = r := by
  refine forD_then' P R h0 (fun i x ρ hx hp => ?_) hk hr
  have q := hs i x ρ hx hp
  cases h1 : u x ρ with
  | none => rw [h1] at q; exact q.elim
  | some ρ1 =>
    rw [h1, Option.bind_some] at q
    refine ⟨ρ1, rfl, ?_⟩
    cases h2 : g ρ1 with
    | none => rw [h2] at q; exact q.elim
    | some o =>
      rw [h2] at q
      cases o with
      | nx ρ2 => exact .inl ⟨ρ2, .inl rfl, q⟩
      | ct ρ2 => exact .inl ⟨ρ2, .inr rfl, q⟩
      | rt d => exact .inr ⟨d, rfl, q⟩
      | bk ρ2 => exact q.elim
      | ex x ρ2 => exact q.elim
/-- a loop that only goes through -/
theorem forD_all {β : Type} {xs : List PyData} {k : Out → Option β} {r : Option β} (P : Nat → Rho → Prop) (h0 : P 0 ρ) (hs : ∀ i x ρ, xs[i]? = some x → P i ρ → Goes (P (i + 1)) (fun _ => False) ((u x ρ).bind g))
    (hk : ∀ ρ', P xs.length ρ' → k (.nx ρ') = r) : (forD u g xs ρ).bind k = r := forD_go P (fun _ => False) h0 hs hk fun _ h => h.elim
theorem goes_seq {P : Rho → Prop} {R : PyData → Prop} {g1 g2 : FS} (S : Rho → Prop) (h1 : ∃ ρ', g1 ρ = some (.nx ρ') ∧ S ρ') (h2 : ∀ ρ', S ρ' → Goes P R (g2 ρ')) : Goes P R (gSeq g1 g2 ρ) := by
  obtain ⟨ρ', e, s⟩ := h1
  rw [gSeq_eq, e, Option.bind_some, thn_nx]
  exact h2 ρ' s
theorem goes_at {P : Rho → Prop} {R : PyData → Prop} {ρ1 : Rho} {x : Option Rho} (e : x = some ρ1) (h : Goes P R (g ρ1)) : Goes P R (x.bind g) := by
  rw [e]
  exact h
theorem goes_one {P : Rho → Prop} {R : PyData → Prop} (h : ∃ ρ', g ρ = some (.nx ρ') ∧ P ρ') : Goes P R (g ρ) := by
  obtain ⟨ρ', e, s⟩ := h
  rw [e]
  exact s
/-- a loop that only goes through, and something behind it that is -/
theorem forD_ex {β : Type} {xs : List PyData} {k : Out → Option β} {Q : β → Prop} (P : Nat → Rho → Prop) (h0 : P 0 ρ) (hs : ∀ i x ρ, xs[i]? = some x → P i ρ → Goes (P (i + 1)) (fun _ => False) ((u x ρ).bind g))
    (hk : ∀ ρ', P xs.length ρ' → ∃ r, k (.nx ρ') = some r ∧ Q r) : ∃ r, (forD u g xs ρ).bind k = some r ∧ Q r := by
  obtain ⟨ρ', e, p⟩ : ∃ ρ', forD u g xs ρ = some (.nx ρ') ∧ P xs.length ρ' := by
    refine forD_inv P h0 fun i x ρ hx hp => ?_
    have q := hs i x ρ hx hp
    cases h1 : u x ρ with
    | none => rw [h1] at q; exact q.elim
    | some ρ1 =>
      rw [h1, Option.bind_some] at q
      cases h2 : g ρ1 with
      | none => rw [h2] at q; exact q.elim
      | some o =>
        rw [h2] at q
        cases o with
        | nx ρ2 => exact ⟨ρ1, ρ2, rfl, .inl h2, q⟩
        | ct ρ2 => exact ⟨ρ1, ρ2, rfl, .inr h2, q⟩
        | rt d => exact q.elim
        | bk ρ2 => exact q.elim
        | ex x ρ2 => exact q.elim
  rw [e]
  exact hk ρ' p
theorem rgD_get {lo : Int} {n i : Nat} {x : PyData} (h : (rgD lo n)[i]? = some x) : i < n ∧ x = .int (lo + (i : Int)) := by
  have hi : i < n := by
    have := (List.getElem?_eq_some_iff.mp h).1
    rw [rgD_len] at this
    exact this
  refine ⟨hi, ?_⟩
  unfold rgD at h
  rw [List.getElem?_map, List.getElem?_range hi] at h
  exact (Option.some.inj h).symm
theorem rgD0 (n : Nat) : rgD 0 n = (List.range n).map fun i : Nat => PyData.int (i : Int) := by
  unfold rgD
  congr 1
  funext i
  rw [Int.zero_add]
theorem at_pos {α : Type} {xs : List α} {i : Int} (h : 0 ≤ i) : atI xs i = xs[i.toNat]? := by
  unfold atI ixN
  rw [if_pos h]
  split
  · rfl
  · rw [List.getElem?_eq_none (by omega)]
    rfl
theorem map_get {α β : Type} {f : α → β} {l : List α} {i : Nat} {x : β} (h : (l.map f)[i]? = some x) : ∃ a, l[i]? = some a ∧ x = f a := by
  rw [List.getElem?_map] at h
  obtain ⟨a, h1, h2⟩ := Option.map_eq_some_iff.mp h
  exact ⟨a, h1, h2.symm⟩
end
/-- comprehensions over data that stand for things of a type -/
theorem lcD_gen {α β : Type} {e : α → PyData} {e' : β → PyData} {ρ : Rho} {n : Nat} {t : Rho → Option Bool} {f : FE} (c : α → Bool) (h : α → β) : ∀ {l : List α}, (∀ x ∈ l, t (ρ.set n (.d (e x))) = some (c x)) → (∀ x ∈ l, c x = true → (f (ρ.set n (.d (e x)))).bind Res.fr = some (e' (h x))) → lcD n t f ρ (l.map e) = some (((l.filter c).map h).map e')
  | [], _, _ => rfl
  | x :: xs, h1, h2 => by
    have ih := lcD_gen (e := e) (e' := e') (ρ := ρ) (n := n) (t := t) (f := f) c h (l := xs) (fun y hy => h1 y (List.mem_cons_of_mem _ hy)) (fun y hy => h2 y (List.mem_cons_of_mem _ hy))
    rw [List.map_cons]
    unfold lcD
    rw [h1 x List.mem_cons_self, Option.bind_some]
    cases hc : c x with
    | true =>
      have q := h2 x List.mem_cons_self hc
      obtain ⟨r, e1, e2⟩ := Option.bind_eq_some_iff.mp q
      rw [if_pos rfl, e1, Option.bind_some, e2, Option.bind_some, ih, List.filter_cons, if_pos hc]
      rfl
    | false =>
      rw [if_neg Bool.false_ne_true, ih, List.filter_cons, if_neg (by rw [hc]; exact Bool.false_ne_true)]
theorem lcD_all {α β : Type} {e : α → PyData} {e' : β → PyData} {ρ : Rho} {n : Nat} {t : Rho → Option Bool} {f : FE} (h : α → β) {l : List α} (h1 : ∀ x ∈ l, t (ρ.set n (.d (e x))) = some true) (h2 : ∀ x ∈ l, (f (ρ.set n (.d (e x)))).bind Res.fr = some (e' (h x))) : lcD n t f ρ (l.map e) = some ((l.map h).map e') := by
  have q := lcD_gen (e := e) (e' := e') (f := f) (fun _ => true) h h1 (fun x hx _ => h2 x hx)
  rw [q, List.filter_eq_self.mpr (fun _ _ => rfl)]
section
variable {α : Type} {x y z : α} {r : List α}
@[simp] theorem at_0 : atI (x :: r) 0 = some x := atI_nat (j := 0) rfl
@[simp] theorem at_1 : atI (x :: y :: r) 1 = some y := atI_nat (j := 1) rfl
@[simp] theorem at_2 : atI (x :: y :: z :: r) 2 = some z := atI_nat (j := 2) rfl
@[simp] theorem at_if {c : Prop} [Decidable c] : atI [x, y] (if c then 1 else 0) = some (if c then y else x) := by
  split <;> simp
@[simp] theorem at_m1 : atI [x] (-1) = some x := atI_last [] x
@[simp] theorem at_m1' : atI [x, y] (-1) = some y := atI_last [x] y
end
@[simp] theorem enD_map {k : Nat} {ds : List PyData} : (enD k ds).length = ds.length := enD_len k ds
@[simp] theorem int_ite {c : Prop} [Decidable c] {a b : Int} : (if c then PyData.int a else PyData.int b) = PyData.int (if c then a else b) := by split <;> rfl
theorem enD_at {ds : List PyData} {i : Nat} {x : PyData} (h : (enD 0 ds)[i]? = some x) : ∃ d, ds[i]? = some d ∧ x = .tuple [.int (i : Int), d] := by
  rw [enD_get] at h
  obtain ⟨d, h1, h2⟩ := Option.map_eq_some_iff.mp h
  rw [Nat.zero_add] at h2
  exact ⟨d, h1, h2.symm⟩
theorem six_pos {n d : Nat} {k : Int} (h : 0 ≤ k) : HT.sIx n d (some k) = min k.toNat n := by
  show (if k < 0 then (k + (n : Int)).toNat else min k.toNat n) = _
  rw [if_neg (by omega)]
theorem cut_to {α : Type} {xs : List α} {k : Int} (h : 0 ≤ k) : cutD xs none (some k) = xs.take k.toNat := by
  unfold cutD
  rw [six_pos h, HT.sIx_none, List.drop_zero, Nat.sub_zero]
  rcases Nat.le_total k.toNat xs.length with q | q
  · rw [Nat.min_eq_left q]
  · rw [Nat.min_eq_right q, List.take_length, List.take_of_length_le q]
theorem cut_from {α : Type} {xs : List α} {k : Int} (h : 0 ≤ k) : cutD xs (some k) none = xs.drop k.toNat := by
  unfold cutD
  rw [six_pos h, HT.sIx_none]
  rcases Nat.le_total k.toNat xs.length with q | q
  · rw [Nat.min_eq_left q, List.take_of_length_le (by rw [List.length_drop]; omega)]
  · rw [Nat.min_eq_right q, List.drop_length, List.take_nil, List.drop_of_length_le q]
theorem cut_mid {α : Type} {xs : List α} {a b : Int} (h : 0 ≤ a) (h2 : 0 ≤ b) : cutD xs (some a) (some b) = (xs.drop a.toNat).take (b.toNat - a.toNat) := by
  unfold cutD
  rw [six_pos h, six_pos h2]
  rcases Nat.le_total a.toNat xs.length with q | q
  · rw [Nat.min_eq_left q]
    rcases Nat.le_total b.toNat xs.length with r | r
    · rw [Nat.min_eq_left r]
    · rw [Nat.min_eq_right r, List.take_of_length_le (by rw [List.length_drop]; omega), List.take_of_length_le (by rw [List.length_drop]; omega)]
  · rw [Nat.min_eq_right q, List.drop_length, List.take_nil, List.drop_of_length_le q, List.take_nil]
theorem cut_map {α β : Type} {f : α → β} {xs : List α} {a b : Option Int} : cutD (xs.map f) a b = (cutD xs a b).map f := by
  unfold cutD
  rw [List.length_map, List.map_take, List.map_drop]
theorem cut_len {α : Type} {xs : List α} {a b : Option Int} : (cutD xs a b).length ≤ xs.length := by
  unfold cutD
  rw [List.length_take, List.length_drop]
  omega
/-! ### lists of ints -/
@[simp] theorem eqvAll_ints : ∀ {ns ms : List Int}, PyData.eqvAll (ns.map PyData.int) (ms.map PyData.int) = decide (ns = ms)
  | [], [] => by simp [PyData.eqvAll]
  | [], _ :: _ => by simp [PyData.eqvAll]
  | _ :: _, [] => by simp [PyData.eqvAll]
  | n :: ns, m :: ms => by
    rw [List.map_cons, List.map_cons, PyData.eqvAll, eqv_int, eqvAll_ints]
    by_cases h : n = m <;> by_cases h2 : ns = ms <;> simp [h, h2]
@[simp] theorem eqv_ints_t {ns ms : List Int} : PyData.eqv (.tuple (ns.map PyData.int)) (.tuple (ms.map PyData.int)) = decide (ns = ms) := by
  rw [PyData.eqv, eqvAll_ints]
@[simp] theorem eqv_ints_l {ns ms : List Int} : PyData.eqv (.list (ns.map PyData.int)) (.list (ms.map PyData.int)) = decide (ns = ms) := by
  rw [PyData.eqv, eqvAll_ints]
theorem lay_ints : ∀ ns : List Int, PyData.canLayAll0 (ns.map PyData.int) = true
  | [] => by simp [PyData.canLayAll0]
  | n :: ns => by simp [PyData.canLayAll0, PyData.canLay0, lay_ints ns]
theorem depth_ints : ∀ ns : List Int, PyData.depthAll (ns.map PyData.int) = 0
  | [] => by simp [PyData.depthAll]
  | n :: ns => by simp [PyData.depthAll, PyData.depth, depth_ints ns]
@[simp] theorem shaped_ints_t {ns : List Int} : SeqAt.shaped (.tuple (ns.map PyData.int)) = true := by
  simp [SeqAt.shaped, PyData.canLay0, PyData.depth, lay_ints, depth_ints]
@[simp] theorem shaped_ints_l {ns : List Int} : SeqAt.shaped (.list (ns.map PyData.int)) = true := by
  simp [SeqAt.shaped, PyData.canLay0, PyData.depth, lay_ints, depth_ints]
@[simp] theorem shaped_nil_l : SeqAt.shaped (.list []) = true := shaped_ints_l (ns := [])
@[simp] theorem shaped_nil_t : SeqAt.shaped (.tuple []) = true := shaped_ints_t (ns := [])
@[simp] theorem eqv_nil_l {ns : List Int} : PyData.eqv (.list (ns.map PyData.int)) (.list []) = decide (ns = []) := eqv_ints_l (ms := [])
@[simp] theorem eqv_nil_t {ns : List Int} : PyData.eqv (.tuple (ns.map PyData.int)) (.tuple []) = decide (ns = []) := eqv_ints_t (ms := [])
@[simp] theorem flat_ints {ns : List Int} : (ns.map PyData.int).all flatD = true := by
  rw [List.all_map]
  exact List.all_eq_true.mpr fun _ _ => rfl
@[simp] theorem inD_ints {n : Int} {ns : List Int} : inD (.int n) (ns.map PyData.int) = decide (n ∈ ns) := by
  unfold inD
  rw [List.any_map]
  induction ns with
  | nil => simp
  | cons m ns ih =>
    rw [List.any_cons, ih]
    show (PyData.eqv (.int m) (.int n) || _) = _
    rw [eqv_int]
    by_cases h : n = m
    · subst h; simp
    · have h' : ¬ m = n := fun e => h e.symm
      simp [h, h']
end DL
namespace DL
open PySem PySem.Spec PyProof.Rows L2
/-! ### the laws' draws -/
def mixed (c t : Int) : Int :=
  if 10 ^ 18 ≤ c then c else
  let first := (c % 1000003 * 48271 + 69621 * (t + 1)) % 2147483647
  let second := (first * 48271 + c % 999983) % 2147483647
  let third := (second * 69621 + first) % 2147483647
  first + 2147483647 * second + 4611686014132420609 * third
def lstep (v : Int) (k : Nat) (left : Int) : Int := if left = 0 then v + 7919 * ((k : Int) + 1) else left
def lgo (v s : Int) : Nat → Nat → Int → List Int
  | _, 0, _ => []
  | k, n + 1, left =>
    let l := lstep v k left
    let d := l % (2 * s - 2)
    (if s - 1 ≤ d then s - 2 - d else d + 1) :: lgo v s (k + 1) n (l / (2 * s - 2))
def lword (v s m : Int) : List Int := lgo v s 0 (v % (m + 1)).toNat (v / (m + 1))
theorem lgo_mem {v s : Int} (hs : 2 ≤ s) : ∀ {n k : Nat} {left x : Int}, x ∈ lgo v s k n left → x ≠ 0 ∧ -s < x ∧ x < s
  | 0, _, _, _, h => by cases h
  | n + 1, k, left, x, h => by
    unfold lgo at h
    have h1 := Int.emod_nonneg (lstep v k left) (show 2 * s - 2 ≠ 0 by omega)
    have h2 := Int.emod_lt_of_pos (lstep v k left) (show 0 < 2 * s - 2 by omega)
    rcases List.mem_cons.mp h with e | h
    · subst e
      split <;> omega
    · exact lgo_mem hs h
theorem lgo_len {v s : Int} : ∀ {n k : Nat} {left : Int}, (lgo v s k n left).length = n
  | 0, _, _ => rfl
  | n + 1, k, left => by
    unfold lgo
    rw [List.length_cons, lgo_len]
theorem lword_mem {v s m x : Int} (hs : 2 ≤ s) (h : x ∈ lword v s m) : x ≠ 0 ∧ -s < x ∧ x < s := lgo_mem hs h
theorem lword_len {v s m : Int} (hm : 0 ≤ m) : ((lword v s m).length : Int) ≤ m := by
  unfold lword
  rw [lgo_len]
  have h1 := Int.emod_nonneg v (show m + 1 ≠ 0 by omega)
  have h2 := Int.emod_lt_of_pos v (show 0 < m + 1 by omega)
  omega
def lend (v s : Int) : Nat → Nat → Int → Int
  | _, 0, left => left
  | k, n + 1, left => lend v s (k + 1) n (lstep v k left / (2 * s - 2))
theorem lgo_snoc {v s : Int} : ∀ {n k : Nat} {left : Int}, lgo v s k (n + 1) left = lgo v s k n left ++ [if s - 1 ≤ lstep v (k + n) (lend v s k n left) % (2 * s - 2) then s - 2 - lstep v (k + n) (lend v s k n left) % (2 * s - 2) else lstep v (k + n) (lend v s k n left) % (2 * s - 2) + 1]
  | 0, k, left => rfl
  | n + 1, k, left => by
    have ih := lgo_snoc (v := v) (s := s) (n := n) (k := k + 1) (left := lstep v k left / (2 * s - 2))
    have e : k + 1 + n = k + (n + 1) := by omega
    rw [e] at ih
    show _ :: lgo v s (k + 1) (n + 1) _ = _ :: (lgo v s (k + 1) n _ ++ _)
    rw [ih]
    rfl
theorem lend_snoc {v s : Int} : ∀ {n k : Nat} {left : Int}, lend v s k (n + 1) left = lstep v (k + n) (lend v s k n left) / (2 * s - 2)
  | 0, k, left => rfl
  | n + 1, k, left => by
    have ih := lend_snoc (v := v) (s := s) (n := n) (k := k + 1) (left := lstep v k left / (2 * s - 2))
    have e : k + 1 + n = k + (n + 1) := by omega
    rw [e] at ih
    show lend v s (k + 1) (n + 1) _ = _
    rw [ih]
    rfl

def G_mixed : FS := (gSeq (gSet 2 (fC1 gInt (aCons (fVar 0) aNil)))
    (gSeq (gIf (fB (f2 gGe (fVar 2) (f2 gPow (fC (.int 10)) (fC (.int 18))))) (gRet (fVar 2)) DL.gNil)
    (gSeq (gSet 3 (f2 gMod (f2 gAdd (f2 gMul (f2 gMod (fVar 2) (fC (.int 1000003))) (fC (.int 48271))) (f2 gMul (fC (.int 69621)) (f2 gAdd (fVar 1) (fC (.int 1))))) (fC (.int 2147483647))))
    (gSeq (gSet 4 (f2 gMod (f2 gAdd (f2 gMul (fVar 3) (fC (.int 48271))) (f2 gMod (fVar 2) (fC (.int 999983)))) (fC (.int 2147483647))))
    (gSeq (gSet 5 (f2 gMod (f2 gAdd (f2 gMul (fVar 4) (fC (.int 69621))) (fVar 3)) (fC (.int 2147483647))))
    (gRet (f2 gAdd (f2 gAdd (fVar 3) (f2 gMul (fC (.int 2147483647)) (fVar 4))) (f2 gMul (fC (.int 4611686014132420609)) (fVar 5)))))))))
theorem r_mixed (c t : Int) : runD 6 G_mixed [.int c, .int t] = some (.int (mixed c t)) := by
  simp [runD_eq, G_mixed, mixed, CMul]
  split <;> rfl
def G_word : FS := (gSeq (gSetO 3 (fLst aNil))
    (gSeq (gSet 4 (f2 gDiv (fVar 0) (f2 gAdd (fVar 2) (fC (.int 1)))))
    (gSeq (gFor (rg1 (aCons (f2 gMod (fVar 0) (f2 gAdd (fVar 2) (fC (.int 1)))) aNil)) (uName 5) (gSeq (gIf (fB (f2 gEq (fVar 4) (fC (.int 0)))) (gSet 4 (f2 gAdd (fVar 0) (f2 gMul (fC (.int 7919)) (f2 gAdd (fVar 5) (fC (.int 1)))))) DL.gNil)
    (gSeq (gSet 6 (f2 gMod (fVar 4) (f2 gMinus (f2 gMul (fC (.int 2)) (fVar 1)) (fC (.int 2)))))
    (gSeq (gSet 4 (f2 gDiv (fVar 4) (f2 gMinus (f2 gMul (fC (.int 2)) (fVar 1)) (fC (.int 2)))))
    (gApp 3 (f2 gIx (fLst (aCons (f2 gAdd (fVar 6) (fC (.int 1))) (aCons (f2 gMinus (f2 gMinus (fVar 1) (fC (.int 2))) (fVar 6)) aNil))) (fC1 gInt (aCons (f2 gGe (fVar 6) (f2 gMinus (fVar 1) (fC (.int 1)))) aNil))))))))
    (gRet (fC1 gTuple (aCons (fVar 3) aNil))))))
theorem r_word (v s m : Int) (h1 : 2 ≤ s) (h2 : s ≤ 1000) (h3 : 0 ≤ m) (h4 : m ≤ 1000) : runD 7 G_word [.int v, .int s, .int m] = some (.tuple ((lword v s m).map PyData.int)) := by
  have hm1 := Int.emod_nonneg v (show m + 1 ≠ 0 by omega)
  have hm2 := Int.emod_lt_of_pos v (show 0 < m + 1 by omega)
  simp [runD_eq, G_word, Option.bind_assoc]
  refine ⟨⟨by omega, by omega⟩, by omega, ?_⟩
  rw [rg1_ok (by omega) (by omega), Option.bind_some]
  refine forD_then (fun i ρ => ∃ x y, ρ = [Slot.d (PyData.int v), Slot.d (PyData.int s), Slot.d (PyData.int m), Slot.own ((lgo v s 0 i (v / (m + 1))).map PyData.int), Slot.d (PyData.int (lend v s 0 i (v / (m + 1)))), x, y] ∧ i ≤ 1000) ⟨.und, .und, rfl, by omega⟩ ?_ ?_
  · rintro i x ρ hi ⟨y, z, rfl, hb⟩
    obtain ⟨h5, rfl⟩ := rgD_get hi
    have e1 : lgo v s 0 (i + 1) (v / (m + 1)) = _ := lgo_snoc
    have e2 : lend v s 0 (i + 1) (v / (m + 1)) = _ := lend_snoc
    rw [Nat.zero_add] at e1 e2
    have hlen : (lgo v s 0 i (v / (m + 1))).length ≤ 100000 := by rw [lgo_len]; omega
    by_cases hz : lend v s 0 i (v / (m + 1)) = 0
    · refine ⟨_, _, rfl, .inl ?_, ⟨.d (.int (i : Int)), .d (.int (lstep v i (lend v s 0 i (v / (m + 1))) % (2 * s - 2))), rfl, by omega⟩⟩
      simp [CMul, hz, hlen, e1, e2, lstep]
      omega
    · refine ⟨_, _, rfl, .inl ?_, ⟨.d (.int (i : Int)), .d (.int (lstep v i (lend v s 0 i (v / (m + 1))) % (2 * s - 2))), rfl, by omega⟩⟩
      simp [CMul, hz, hlen, e1, e2, lstep]
      omega
  · rintro ρ ⟨x, y, rfl, _⟩
    simp [lword, rgD_len]
end DL
namespace DL
open PySem PySem.Spec PyProof.Rows L2
section
variable {X : Cx} {a b c e : Expr} {es : List Expr} {st : Stmt} {rest : List Stmt} {fa fb fc : FE} {fs : FA} {pos : Pos} {g g1 g2 : FS}
/-! ### a chain of two comparisons -/
def fChain (g1 g2 : PyData → PyData → Option Res) (fa fb fc : FE) : FE := fun ρ => (fa ρ).bind fun a => (fb ρ).bind fun b => (g1 a.rd b.rd).bind fun r => match r.rd with
  | .bool true => (fc ρ).bind fun c => g2 b.rd c.rd
  | .bool false => some (.fz (.bool false))
  | _ => none
theorem ent_chain {K : PySem.W.Frag} {r1 r2 : R2} {g1 g2 : PyData → PyData → Option Res} (o1 : Op2 K r1 g1) (o2 : Op2 K r2 g2) : ∀ σ H Q, tD K (fChain g1 g2 fa fb fc) σ H Q → tChain r1 r2 (tD K fa) (tD K fb) (tD K fc) σ H Q := fun σ H Q h => by
  obtain ⟨B, Hf, ρ, r, er, hf, k⟩ := h
  unfold fChain at hf
  obtain ⟨ra, h1, hf⟩ := Option.bind_eq_some_iff.mp hf
  obtain ⟨rb, h2, hf⟩ := Option.bind_eq_some_iff.mp hf
  obtain ⟨rc, h3, hf⟩ := Option.bind_eq_some_iff.mp hf
  refine ⟨B, Hf, ρ, ra, er, h1, fun v Hf1 H1 g1 q1 => ⟨B, Hf1, ρ, rb, er.grow g1, h2, fun u Hf2 H2 g2 q2 => ?_⟩⟩
  have g12 := g1.trans g2
  refine o1 B H Hf2 H2 v u ra rb rc _ g2.fh g12.h (q1.grow g2) (q2.back g1.h) h3 fun w Hf3 H3 g3 q3 => ?_
  split at hf
  · rename_i e3
    obtain ⟨rd, h4, hf⟩ := Option.bind_eq_some_iff.mp hf
    refine ⟨true, q3.bl e3, ?_⟩
    rw [if_pos rfl]
    refine ⟨B, Hf3, ρ, rd, (er.grow g12).grow g3, h4, fun x Hf4 H4 g4 q4 => ?_⟩
    have g34 := g3.trans g4
    have g14 := g12.trans g34
    exact o2 B H Hf4 H4 u x rb rd r Q g4.fh g14.h ((q2.back g1.h).grow g34) (q4.back (g12.trans g3).h) hf fun y Hf5 H5 g5 q5 => k y Hf5 H5 (g14.trans g5) (q5.back g14.h)
  · rename_i e3
    cases hf
    refine ⟨false, q3.bl e3, ?_⟩
    rw [if_neg Bool.false_ne_true]
    exact k _ Hf3 H3 (g12.trans g3) (Dp.bl _)
  · cases hf
theorem d_chain {op op' : CmpOp} {r r' : R2} {g g' : PyData → PyData → Option Res} (ho : OpR X (compareOp op) r) (ho' : OpR X (compareOp op') r') (o : Op2 X.K r g) (o' : Op2 X.K r' g') (ha : DE X a fa) (hb : DE X b fb) (hc : DE X c fc)
    (hm : lastMarks [op, op'] [b, c] = false := by with_unfolding_all rfl) : DE X (.Compare a [op, op'] [b, c] pos) (fChain g g' fa fb fc) := pe_mono (pe_chain ho ho' ha hb hc hm) (ent_chain o o')
theorem t_chain {op op' : CmpOp} {r r' : R2} {g g' : PyData → PyData → Option Res} (ho : OpR X (compareOp op) r) (ho' : OpR X (compareOp op') r') (o : Op2 X.K r g) (o' : Op2 X.K r' g') (ha : DE X a fa) (hb : DE X b fb) (hc : DE X c fc)
    (hm : lastMarks [op, op'] [b, c] = false := by with_unfolding_all rfl) : DT X (.Compare a [op, op'] [b, c] pos) (fB (fChain g g' fa fb fc)) := pt_mono (pt_chain ho ho' ha hb hc hm) fun σ H Q h => by
  obtain ⟨B, Hf, ρ, c, er, hf, k⟩ := h
  obtain ⟨r', h1, h2⟩ := fB_some hf
  exact ent_chain o o' σ H _ ⟨B, Hf, ρ, r', er, h1, fun v Hf' H' g' q => ⟨c, q.bl h2, k Hf' H' g'⟩⟩

/-! ### own errors: raise, calls that raise, try -/
def gEx (x : Str) : FS := fun ρ => some (.ex x ρ)
theorem s_raise {x m : Str} {j : Nat} {p p2 pos2 : Pos} {C : Addr} {bmB : List Value} {B newId initId : String} (F : ExcBaseFacts B newId initId bmB) (q : PySem.W.excIn X.K C bmB newId = true) (gC : X.mg x = some (.ref C)) (kC : PySem.W.keepIn X.K (.ref C) = true)
    (h1 : PySem.W.subIn X.K (.ref C) (.type "BaseException") = some true) (h2 : PySem.W.typeIn X.K (.ref C) = some (.type "type")) (hg : Gl X x := by rfl) (hc : X.calm = true := by rfl) (hdb : (x == ("__debug__" : Str)) = false := by decide) :
    DS X (.Raise (some (.Call (.Name x p) [.Constant (.str m) j p2] [] pos)) none pos2) (gEx x) := ps_mono (ps_raise hc takesW (pmk_own F q gC kC (raises_own h1 h2) hg hdb)) fun D σ H h => by
  obtain ⟨Bs, Hf, ρ, o, er, hg, k⟩ := h
  cases hg
  exact k C σ Hf H gC GB.refl er
/-- an own error's class C, its name x, over ValueError, without a body of its own -/
structure ErrC (K : PySem.W.Frag) (mg : Str → Option Value) (x : Str) (C : Addr) : Prop where
  g : mg x = some (.ref C)
  q : PySem.W.excIn K C [.type "ValueError", .type "Exception", .type "BaseException", .type "object"] "ValueError.__new__" = true
  k : PySem.W.keepIn K (.ref C) = true
  s : PySem.W.subIn K (.ref C) (.type "BaseException") = some true
  t : PySem.W.typeIn K (.ref C) = some (.type "type")
  e : PySem.W.exmOne K (.ref C) (.ref C) = some true
theorem s_err {x m : Str} {j : Nat} {p p2 pos2 : Pos} {C : Addr} (Z : ErrC X.K X.mg x C) (hg : Gl X x := by rfl) (hc : X.calm = true := by rfl) (hdb : (x == ("__debug__" : Str)) = false := by decide) :
    DS X (.Raise (some (.Call (.Name x p) [.Constant (.str m) j p2] [] pos)) none pos2) (gEx x) := s_raise PySem.F.excBase_ValueError Z.q Z.g Z.k Z.s Z.t hg hc hdb
inductive RX where
  | ok (d : PyData)
  | ex (x : Str)
abbrev FX := List PyData → Option RX
def spX (K : PySem.W.Frag) (mg : Str → Option Value) (n : Nat) (F : FX) : Sp := fun vs H Q E => ∃ Hf ds r, (Same Hf H ∧ Bn Hf) ∧ DpAll K Hf vs ds ∧ ds.length = n ∧ F ds = some r ∧ match r with
  | .ok d => ∀ v Hf' H', Gr Hf H Hf' H' → Dp K Hf' v d → Q v H'
  | .ex x => ∀ C Hf' H', mg x = some (.ref C) → Gr Hf H Hf' H' → E (.ref C) none H'
def runX (n : Nat) (g : FS) : FX := fun ds => (g (startR n ds)).bind fun o => match o with
  | .rt d => some (.ok d)
  | .nx _ => some (.ok .none)
  | .ex x _ => some (.ex x)
  | _ => none
end
section
variable {P : Program} {w : World} {K : PySem.W.Frag} {mg : Str → Option Value} {base : Heap}
/-- THE RULE for a def that may raise -/
theorem def_okX {x qual : Str} {st : Stmt} {f : Addr} {fd : FuncData} {N ps : List Str} {k : Nat} {g : FS} (F : Fun K x qual st f fd) (S : FnScope N ps (defScope st))
    (hbody : ∀ (cdv : Value) (A : Around) (outer : List Env) (s : Shared) (H : Hp) (E : XK), Room k (A.deeper (envOfC qual (defScope st) s.heap.objs.size f cdv)) → DSs (cxOf (L2.CX P w) P w K mg base N qual (defScope st) f cdv A outer s H E) (defBody st) g)
    (htk : ∀ (cdv : Value) (A : Around) (outer : List Env) (s : Shared) (H : Hp) (E : XK), Takes (cxOf (L2.CX P w) P w K mg base N qual (defScope st) f cdv A outer s H E) (fun cls d _ H' => E cls d H') := by intro _ _ _ _ _ _; exact takes_of rfl rfl rfl rfl) :
    FnOk P w K mg base (L2.CX P w) (k + 1) f fd ps (spX K mg ps.length (runX N.length g)) := by
  refine F.okX S (fun vs H Q E h => ?_) (fun cdv A outer s H vs Q E hr h => ?_)
  · obtain ⟨Hf, ds, d, e, hd, hl, _⟩ := h
    rw [dpa_len hd, hl]
  · obtain ⟨Hf, ds, d, e, hd, hl, hF, q⟩ := h
    refine ⟨_, hbody cdv A outer s H E hr, ?_⟩
    unfold runX at hF
    obtain ⟨o, h1, h2⟩ := Option.bind_eq_some_iff.mp hF
    have er : ER K H Hf H (L2.start N vs) (startR N.length ds) := er_start e hd
    refine ⟨H, Hf, _, o, er, h1, ?_⟩
    cases o with
    | rt d' =>
      cases h2
      exact fun v Hf' H' g' e1 e2 dp => q v Hf' H' ⟨g'.f, e2, e1, g'.un, g'.bn⟩ dp
    | nx ρ' =>
      cases h2
      exact fun σ' Hf' H' g' er' => q .non Hf' H' ⟨g'.f, er'.bh, er'.fh, g'.un, g'.bn⟩ .non
    | bk _ => cases h2
    | ct _ => cases h2
    | ex x ρ' =>
      cases h2
      exact fun C σ' Hf' H' hC g' er' => wgx_of (htk cdv A outer s H E) (q C Hf' H' hC ⟨g'.f, er'.bh, er'.fh, g'.un, g'.bn⟩)
end
section
variable {X : Cx} {a b c e : Expr} {es : List Expr} {st : Stmt} {rest : List Stmt} {fa fb fc : FE} {fs : FA} {pos p : Pos} {g g1 g2 : FS} {k n : Nat} {f : Addr} {fd : FuncData} {ps : List Str} {F : FX} {x : Str}
/-- y = f(..), f may raise -/
def gSetX (i : Nat) (F : FX) (fs : FA) : FS := fun ρ => (fs ρ).bind fun rs => (frs rs).bind fun ds => (F ds).map fun r => match r with
  | .ok d => .nx (ρ.set i (.d d))
  | .ex x => .ex x ρ
theorem frs_len : ∀ (rs : List Res) (ds : List PyData), frs rs = some ds → ds.length = rs.length
  | [], ds, h => by cases h; rfl
  | r :: rs, ds, h => by
    unfold frs at h
    obtain ⟨x, e1, e2⟩ := Option.bind_eq_some_iff.mp h
    obtain ⟨ys, e3, e4⟩ := Option.map_eq_some_iff.mp e2
    subst e4
    rw [List.length_cons, List.length_cons, frs_len rs ys e3]
theorem s_setX {y : Str} {py : Pos} (i : Nat) (hN : X.N.Nodup) (G : FnOk X.prog X.w X.K X.mg X.base (L2.CX X.prog X.w) k f fd ps (spX X.K X.mg n F)) (hr : Room k X.A) (hm : X.mg x = some (.ref f)) (hk : PySem.W.keepIn X.K (.ref f) = true) (hb : Binds X.K fd ps []) (ha : DA X (e :: es) fs) (hn : ALen fs n)
    (hg : Gl X x := by rfl) (hdb : (x == ("__debug__" : Str)) = false := by decide) (he : starEach (e :: es) X.env = (false, eval e X.env) :: starEach es X.env := by rfl) (hpl : (backTo p (starEach es X.env)).any (·.1) = false := by rfl)
    (hi : X.N[i]? = some y := by rfl) (hx : Loc X.env.scope y := by first | exact Or.inl rfl | exact Or.inr rfl) {px : Pos} (hs : swapsWith (.Call (.Name x px) (e :: es) [] p) (some (.Name y py)) pos.line X.env = pure false := by rfl) (hf : X.fn y = true ∨ X.env.scope.names.lookup y = some .local := by first | exact .inl rfl | exact .inr rfl | assumption) :
    DS X (.Assign [.Name y py] (.Call (.Name x px) (e :: es) [] p) pos) (gSetX i F fs) := ps_mono (ps_set (i := i) hN hi hx (pe_callS G hr hg hm hk hb (fun σ => passAt takesW σ) ha hdb he hpl) hs hf) fun D σ H h => by
  obtain ⟨B, Hf, ρ, o, er, hg, kk⟩ := h
  unfold gSetX at hg
  obtain ⟨rs, h1, h2⟩ := Option.bind_eq_some_iff.mp hg
  obtain ⟨ds, h3, h4⟩ := Option.bind_eq_some_iff.mp h2
  obtain ⟨r, h5, h6⟩ := Option.map_eq_some_iff.mp h4
  subst h6
  refine ⟨B, Hf, ρ, rs, er, h1, fun vs Hf1 H1 g1 q1 => ?_⟩
  obtain ⟨Hf2, g2, s2, d2⟩ := RRs.freeze er g1 q1 h3
  have hl : ds.length = n := by rw [frs_len rs ds h3, hn rs ⟨ρ, h1⟩]
  refine ⟨Hf2, ds, r, ⟨g2.fh, g2.bn er.bn⟩, d2, hl, h5, ?_⟩
  cases r with
  | ok d => exact fun v Hf3 H3 g3 dp => kk _ Hf3 H3 ((g2.trans g3).gb er.bh) ((er.grow (g2.trans g3)).set i dp)
  | ex y => exact fun C Hf3 H3 hC g3 => kk C σ Hf3 H3 hC ((g2.trans g3).gb er.bh) (er.grow (g2.trans g3))
/-- try: .. except C as e: .. (the named class alone is caught) -/
def wipeO (i : Nat) : Out → Out
  | .nx ρ => .nx (ρ.set i .und)
  | .bk ρ => .bk (ρ.set i .und)
  | .ct ρ => .ct (ρ.set i .und)
  | o => o
def gTry (x : Str) (i : Nat) (gb : FS) (gs : Addr → FS) : FS := fun ρ => (gb ρ).bind fun o => match o with
  | .ex y ρ1 => if y = x then (gs 0 (ρ1.set i (.pin (.ref 0)))).map (wipeO i) else none
  | o => some o
/-- the suite's own yield doesn't hang on the error's address -/
def Uni (i : Nat) (gs : Addr → FS) : Prop := ∀ (a : Addr) (ρ : Rho) o, (gs 0 (ρ.set i (.pin (.ref 0)))).map (wipeO i) = some o → (gs a (ρ.set i (.pin (.ref a)))).map (wipeO i) = some o ∧ (∀ y ρ', gs a (ρ.set i (.pin (.ref a))) = some (.ex y ρ') → False)
theorem ER.setP {K : PySem.W.Frag} {B Hf H : Hp} {σ : L2.St} {ρ : Rho} (er : ER K B Hf H σ ρ) (i : Nat) (v : V) : ER K B Hf H (σ.set i (some v)) (ρ.set i (.pin v)) := by
  refine ⟨er.fh, er.bh, by rw [List.length_set, List.length_set]; exact er.len, fun j s o q1 q2 => ?_, er.bn, fun j k ys zs p' hjk q1 q2 q3 q4 => ?_⟩
  · by_cases z : i = j
    · subst z
      by_cases hi : i < ρ.length
      · rw [List.getElem?_set_self hi] at q1
        rw [List.getElem?_set_self (by rw [er.len]; exact hi)] at q2
        cases q1; cases q2
        rfl
      · rw [List.getElem?_eq_none (by rw [List.length_set]; omega)] at q1
        cases q1
    · rw [List.getElem?_set_ne z] at q1 q2
      exact er.sl j s o q1 q2
  · have nj : ∀ {j : Nat} {xs : List PyData}, (ρ.set i (Slot.pin v))[j]? = some (.own xs) → i ≠ j := fun {j xs} q z => by
      subst z
      by_cases hi : i < ρ.length
      · rw [List.getElem?_set_self hi] at q; cases q
      · rw [List.getElem?_eq_none (by rw [List.length_set]; omega)] at q; cases q
    have z1 := nj q1
    have z2 := nj q2
    rw [List.getElem?_set_ne z1] at q1 q3
    rw [List.getElem?_set_ne z2] at q2 q4
    exact er.dj j k ys zs p' hjk q1 q2 q3 q4
theorem ER.setU {K : PySem.W.Frag} {B Hf H : Hp} {σ : L2.St} {ρ : Rho} (er : ER K B Hf H σ ρ) (i : Nat) (v : Option V) : ER K B Hf H (σ.set i v) (ρ.set i .und) := by
  refine ⟨er.fh, er.bh, by rw [List.length_set, List.length_set]; exact er.len, fun j s o q1 q2 => ?_, er.bn, fun j k ys zs p' hjk q1 q2 q3 q4 => ?_⟩
  · by_cases z : i = j
    · subst z
      by_cases hi : i < ρ.length
      · rw [List.getElem?_set_self hi] at q1
        cases q1
        trivial
      · rw [List.getElem?_eq_none (by rw [List.length_set]; omega)] at q1
        cases q1
    · rw [List.getElem?_set_ne z] at q1 q2
      exact er.sl j s o q1 q2
  · have nj : ∀ {j : Nat} {xs : List PyData}, (ρ.set i Slot.und)[j]? = some (.own xs) → i ≠ j := fun {j xs} q z => by
      subst z
      by_cases hi : i < ρ.length
      · rw [List.getElem?_set_self hi] at q; cases q
      · rw [List.getElem?_eq_none (by rw [List.length_set]; omega)] at q; cases q
    have z1 := nj q1
    have z2 := nj q2
    rw [List.getElem?_set_ne z1] at q1 q3
    rw [List.getElem?_set_ne z2] at q2 q4
    exact er.dj j k ys zs p' hjk q1 q2 q3 q4
theorem s_try {y : Str} {C : Addr} {i : Nat} {body suite : List Stmt} {b₀ : Stmt} {np pos' : Pos} {gs : Addr → FS} (hN : X.N.Nodup) (gC : X.mg x = some (.ref C)) (eP : PySem.W.exmOne X.K (.ref C) (.ref C) = some true)
    (hb : ∀ (pn : List (Addr × Obj)) (xe : Value → Shared → Prop), PassesOwn (model X.prog X.w) X.A X.env xe → DSs (X.tr pn xe) body g)
    (hsu : ∀ (a : Addr) (oe : Obj) (pn : List (Addr × Obj)), Zc (.ref C) none oe → (∃ vs, oe.data = .fields vs) → DSs (X.suite a ((a, oe) :: pn)) (b₀ :: suite) (gs a))
    (hu : Uni i gs) (hs : X.stack = X.env :: X.outer := by rfl) (hf : X.env.frame = some X.env.locals := by rfl) (hi : X.N[i]? = some y := by rfl) (hln : X.env.kindOf y = some .local := by rfl) (hg : Gl X x := by rfl) (hdb : (x == ("__debug__" : Str)) = false := by decide) :
    DS X (.Try body [.ExceptHandler (some (.Name x np)) (some y) (b₀ :: suite) pos'] [] [] pos) (gTry x i g gs) :=
  ps_mono (ps_try_as (i := i) (tb := fun W => tDS X.K X.mg W g) (ts := fun a cls d D σ H => cls = .ref C ∧ d = none ∧ tDS X.K X.mg (fun _ _ _ _ => False) (gs a) D σ H) (c := .ref C) (Wout := fun _ _ _ _ => False) hs hf hN hi hln ⟨hg, hdb, .inl gC⟩ takes0
    (fun W pn xe tk hp => pss_mono (hb pn xe hp) fun D σ H h => by
      obtain ⟨B, Hf, ρ, o, er, hg, kk⟩ := h
      refine ⟨B, Hf, ρ, o, er, hg, ?_⟩
      cases o with
      | nx _ => exact kk
      | rt _ => exact kk
      | bk _ => exact kk
      | ct _ => exact kk
      | ex y ρ' => exact fun C σ' Hf' H' hC g' er' => wgx_of tk (kk C σ' Hf' H' hC g' er'))
    (fun a oe cls d pn hz hfd => ⟨fun pins s σ H D I h => by
      obtain ⟨ec, ed, B, Hf, ρ, o, er, hg, kk⟩ := h
      subst ec ed
      refine (hsu a oe pn hz hfd).run pins s σ H D I ⟨B, Hf, ρ, o, er, hg, ?_⟩
      cases o with
      | nx _ => exact kk
      | rt _ => exact kk
      | bk _ => exact kk
      | ct _ => exact kk
      | ex y ρ' => exact fun C σ' Hf' H' hC g' er' => (kk C σ' Hf' H' hC g' er').elim⟩)) fun D σ H h => by
  obtain ⟨B, Hf, ρ, o, er, hg, k⟩ := h
  unfold gTry at hg
  obtain ⟨o1, e1, e2⟩ := Option.bind_eq_some_iff.mp hg
  refine ⟨B, Hf, ρ, o1, er, e1, ?_⟩
  cases o1 with
  | nx _ => cases e2; exact k
  | rt _ => cases e2; exact k
  | bk _ => cases e2; exact k
  | ct _ => cases e2; exact k
  | ex z ρ1 =>
    simp only at e2
    split at e2
    · rename_i hz
      subst hz
      intro C' σ' Hf' H' hC g' er'
      rw [gC] at hC
      cases hC
      refine ⟨true, eP, fun _ a ha => ⟨rfl, rfl, ?_⟩, fun q => nomatch q⟩
      obtain ⟨u1, u2⟩ := hu a ρ1 o e2
      obtain ⟨o2, u3, u4⟩ := Option.map_eq_some_iff.mp u1
      refine ⟨B, Hf', _, o2, er'.setP i (.ref a), u3, ?_⟩
      subst u4
      cases o2 with
      | nx ρ2 => exact fun σ2 Hf2 H2 g2 er2 => k _ Hf2 H2 (g'.trans g2) (er2.setU i none)
      | bk ρ2 => exact fun σ2 Hf2 H2 g2 er2 => k _ Hf2 H2 (g'.trans g2) (er2.setU i none)
      | ct ρ2 => exact fun σ2 Hf2 H2 g2 er2 => k _ Hf2 H2 (g'.trans g2) (er2.setU i none)
      | rt d => exact fun v Hf2 H2 g2 s1 s2 dp => k v Hf2 H2 (g'.trans g2) s1 s2 dp
      | ex y ρ2 => exact (u2 y ρ2 u3).elim
    · cases e2
@[simp] theorem fChain_eq {ρ : Rho} {h1 h2 : PyData → PyData → Option Res} : fChain h1 h2 fa fb fc ρ = (fa ρ).bind fun a => (fb ρ).bind fun b => (h1 a.rd b.rd).bind fun r => match r.rd with
  | .bool true => (fc ρ).bind fun c => h2 b.rd c.rd
  | .bool false => some (.fz (.bool false))
  | _ => none := (rfl)
@[simp] theorem gEx_eq {ρ : Rho} : gEx x ρ = some (.ex x ρ) := (rfl)
def setX (i : Nat) (ρ : Rho) : RX → Out
  | .ok d => .nx (ρ.set i (.d d))
  | .ex x => .ex x ρ
@[simp] theorem setX_ok {i : Nat} {ρ : Rho} {d : PyData} : setX i ρ (.ok d) = .nx (ρ.set i (.d d)) := (rfl)
@[simp] theorem setX_ex {i : Nat} {ρ : Rho} : setX i ρ (.ex x) = .ex x ρ := (rfl)
@[simp] theorem gSetX_eq {i : Nat} {ρ : Rho} : gSetX i F fs ρ = (fs ρ).bind fun rs => (frs rs).bind fun ds => (F ds).map (setX i ρ) := by
  unfold gSetX
  congr 1
@[simp] theorem wipeO_nx {i : Nat} {ρ : Rho} : wipeO i (.nx ρ) = .nx (ρ.set i .und) := (rfl)
@[simp] theorem wipeO_bk {i : Nat} {ρ : Rho} : wipeO i (.bk ρ) = .bk (ρ.set i .und) := (rfl)
@[simp] theorem wipeO_ct {i : Nat} {ρ : Rho} : wipeO i (.ct ρ) = .ct (ρ.set i .und) := (rfl)
@[simp] theorem wipeO_rt {i : Nat} {d : PyData} : wipeO i (.rt d) = .rt d := (rfl)
def tryS (x : Str) (i : Nat) (gs : Addr → FS) : Out → Option Out
  | .ex y ρ1 => if y = x then (gs 0 (ρ1.set i (.pin (.ref 0)))).map (wipeO i) else none
  | o => some o
@[simp] theorem tryS_nx {i : Nat} {gs : Addr → FS} {ρ : Rho} : tryS x i gs (.nx ρ) = some (.nx ρ) := (rfl)
@[simp] theorem tryS_rt {i : Nat} {gs : Addr → FS} {d : PyData} : tryS x i gs (.rt d) = some (.rt d) := (rfl)
@[simp] theorem tryS_ct {i : Nat} {gs : Addr → FS} {ρ : Rho} : tryS x i gs (.ct ρ) = some (.ct ρ) := (rfl)
@[simp] theorem tryS_bk {i : Nat} {gs : Addr → FS} {ρ : Rho} : tryS x i gs (.bk ρ) = some (.bk ρ) := (rfl)
@[simp] theorem tryS_ex {i : Nat} {gs : Addr → FS} {ρ : Rho} : tryS x i gs (.ex x ρ) = (gs 0 (ρ.set i (.pin (.ref 0)))).map (wipeO i) := if_pos rfl
@[simp] theorem gTry_eq {i : Nat} {gs : Addr → FS} {ρ : Rho} : gTry x i g gs ρ = (g ρ).bind (tryS x i gs) := by
  unfold gTry
  congr 1
def endX : Out → Option RX
  | .rt d => some (.ok d)
  | .nx _ => some (.ok .none)
  | .ex x _ => some (.ex x)
  | _ => none
@[simp] theorem endX_r {d : PyData} : endX (.rt d) = some (.ok d) := (rfl)
@[simp] theorem endX_n {ρ : Rho} : endX (.nx ρ) = some (.ok .none) := (rfl)
@[simp] theorem endX_x {ρ : Rho} : endX (.ex x ρ) = some (.ex x) := (rfl)
theorem runX_eq {xs : List PyData} : runX n g xs = (g (startR n xs)).bind endX := by
  unfold runX
  congr 1
/-! ### isinstance of the error that the suite holds -/
/-- the slot i holds the error at a -/
def fIsE (a : Addr) (i : Nat) (b : Bool) : FE := fun ρ => match ρ[i]? with
  | some (.pin (.ref a')) => if a' = a then some (.fz (.bool b)) else none
  | _ => none
def isS (a : Addr) (b : Bool) : Option Slot → Option Res
  | some (.pin (.ref a')) => if a' = a then some (.fz (.bool b)) else none
  | _ => none
@[simp] theorem isS_p {a : Addr} {b : Bool} : isS a b (some (.pin (.ref a))) = some (.fz (.bool b)) := if_pos rfl
@[simp] theorem fIsE_eq {a : Addr} {i : Nat} {b : Bool} {ρ : Rho} : fIsE a i b ρ = isS a b ρ[i]? := (rfl)
theorem fIsE_some {a : Addr} {i : Nat} {b : Bool} {ρ : Rho} {r : Res} (h : fIsE a i b ρ = some r) : ρ[i]? = some (.pin (.ref a)) ∧ r = .fz (.bool b) := by
  unfold fIsE at h
  split at h
  · rename_i e
    split at h
    · rename_i z
      subst z
      cases h
      exact ⟨e, rfl⟩
    · cases h
  · cases h
theorem ER.pinned {K : PySem.W.Frag} {B Hf H : Hp} {σ : L2.St} {ρ : Rho} {i : Nat} {v : V} (er : ER K B Hf H σ ρ) (h : ρ[i]? = some (.pin v)) : σ[i]? = some (some v) := by
  have hi : i < σ.length := by rw [er.len]; exact (List.getElem?_eq_some_iff.mp h).1
  have ho : σ[i]? = some σ[i] := List.getElem?_eq_getElem hi
  have q : σ[i] = some v := er.sl i _ _ h ho
  rw [ho, q]
/-- isinstance(e, (C1, C2)): the tuple just laid -/
def rIsET (K : PySem.W.Frag) (D a : Addr) : List V → Hp → VK → Prop := fun xs H Q => ∃ (tp : Addr) (cs : List V) (us : List Value) (b : Bool), xs = [.ref a, .ref tp] ∧ H tp = some (.tup cs) ∧ Paired ClsV cs us ∧ PySem.W.kitAny K (.ref D) us = some b ∧ Q (.bl b) H
theorem call_isET {a D : Addr} {oe : Obj} {pn : List (Addr × Obj)} (C : ExcC X.K D) (hz : Zc (.ref D) none oe) (hf : ∃ vs, oe.data = .fields vs) : CallR (X.suite a ((a, oe) :: pn)) (.builtin "isinstance") (rIsET X.K D a) := by
  intro pins s σ H xs us Q I r h
  obtain ⟨tp, cs, ws, b, rfl, hT, k, e, q⟩ := h
  cases r with
  | cons rx rr =>
    cases rr with
    | cons rt rr =>
      cases rr
      cases rx
      cases rt
      obtain ⟨hget, _⟩ := I.pin (a, oe) (List.mem_append.mpr (.inl List.mem_cons_self))
      obtain ⟨vs, hv⟩ := hf
      have J : PySem.W.InstAt s.heap a oe D none := by
        obtain ⟨oc, od, oda, osl⟩ := oe
        obtain ⟨h1, h2⟩ := hz
        dsimp only at h1 h2 hv
        subst h1 h2 hv
        exact ⟨hget, rfl, rfl, trivial⟩
      obtain ⟨_, its, rv, o, h1, h2, n, h3⟩ := (show ObjOk X.prog X.w H s.heap tp (.tup cs) from I.hok tp _ hT)
      have e3 := ClsV.all k rv
      subst e3
      obtain ⟨oc, od, dt, sl⟩ := o
      simp only at h2 h3
      subst h2 h3
      exact PySem.W.kia_tup (PySem.W.handS_kitx_exc C.hg C.hk C.hs C.hd C.ha C.hn C.ht C.hm) I.kIn J h1 e (fun z => nomatch z) fun tk => ⟨.bl b, H, I.kept (t' := tk) fun _ _ z => z, rfl, q⟩
section
variable {ad D : Addr} {oe : Obj} {pn : List (Addr × Obj)} {i : Nat} {b : Bool} {q pt : Pos} {T y : Str}
/-- isinstance(e, ValueError) -/
theorem d_isEB {T : Str} {m : String} (CC : ExcC X.K D) (hz : Zc (.ref D) none oe) (hf : ∃ vs, oe.data = .fields vs) (i : Nat) (he : PySem.W.kitOne X.K (.ref D) (.type m) = some b) (hm : X.mg "isinstance" = none) (hmT : X.mg T = none) (hvT : bootBuiltins T = some (.type m)) (hb : bootBuiltins "isinstance" = some (.builtin "isinstance"))
    (hi : X.N[i]? = some y := by rfl) (hv : Vis X.env.scope y := by first | exact Or.inl rfl | exact Or.inr (Or.inl rfl) | exact Or.inr (Or.inr rfl)) (hd : (y == ("__debug__" : Str)) = false := by decide) (hcd : (y == ("__classdict__" : Str)) = false := by decide)
    (hg : Gl X "isinstance" := by rfl) (hgT : Gl X T := by rfl) (hn : T ≠ "__name__" := by decide) (hdb : (T == ("__debug__" : Str)) = false := by decide)
    (h1 : starEach [.Name y pt, .Name T q] X.env = (false, eval (.Name y pt) X.env) :: starEach [.Name T q] X.env := by rfl) (h2 : starEach [.Name T q] X.env = (false, eval (.Name T q) X.env) :: starEach [] X.env := by rfl) (hpl : (backTo pos (starEach [.Name T q] X.env)).any (·.1) = false := by rfl) :
    DE (X.suite ad ((ad, oe) :: pn)) (.Call (.Name "isinstance" p) [.Name y pt, .Name T q] [] pos) (fIsE ad i b) := pe_mono (pe_callB (X := X.suite ad ((ad, oe) :: pn)) (call_isE (X := X) CC hz hf) hg hm hb (pa_cons (pe_var (i := i) hi hv hd hcd) (pa_cons (pe_bltn (v := .ty m) hgT hmT hvT rfl hn hdb) pa_nil h2) h1) (by decide) (by decide) h1 hpl) fun σ H Q h => by
  obtain ⟨B, Hf, ρ, r, er, hf, k⟩ := h
  obtain ⟨e1, e2⟩ := fIsE_some hf
  subst e2
  exact ⟨.ref ad, er.pinned e1, .ty m, _, b, rfl, fun u r => r, he, k _ _ _ (Gr.refl er.fh) (Dp.bl _)⟩
/-- isinstance(e, C), C an own class -/
theorem d_isEC {T : Str} {C : Addr} (CC : ExcC X.K D) (hz : Zc (.ref D) none oe) (hf : ∃ vs, oe.data = .fields vs) (i : Nat) (he : PySem.W.kitOne X.K (.ref D) (.ref C) = some b) (hm : X.mg "isinstance" = none) (hmT : X.mg T = some (.ref C)) (hb : bootBuiltins "isinstance" = some (.builtin "isinstance"))
    (hi : X.N[i]? = some y := by rfl) (hv : Vis X.env.scope y := by first | exact Or.inl rfl | exact Or.inr (Or.inl rfl) | exact Or.inr (Or.inr rfl)) (hd : (y == ("__debug__" : Str)) = false := by decide) (hcd : (y == ("__classdict__" : Str)) = false := by decide)
    (hg : Gl X "isinstance" := by rfl) (hgT : Gl X T := by rfl) (hdb : (T == ("__debug__" : Str)) = false := by decide)
    (h1 : starEach [.Name y pt, .Name T q] X.env = (false, eval (.Name y pt) X.env) :: starEach [.Name T q] X.env := by rfl) (h2 : starEach [.Name T q] X.env = (false, eval (.Name T q) X.env) :: starEach [] X.env := by rfl) (hpl : (backTo pos (starEach [.Name T q] X.env)).any (·.1) = false := by rfl) :
    DE (X.suite ad ((ad, oe) :: pn)) (.Call (.Name "isinstance" p) [.Name y pt, .Name T q] [] pos) (fIsE ad i b) := pe_mono (pe_callB (X := X.suite ad ((ad, oe) :: pn)) (call_isE (X := X) CC hz hf) hg hm hb (pa_cons (pe_var (i := i) hi hv hd hcd) (pa_cons (pe_glob (v := .ref C) hgT hmT rfl hdb) pa_nil h2) h1) (by decide) (by decide) h1 hpl) fun σ H Q h => by
  obtain ⟨B, Hf, ρ, r, er, hf, k⟩ := h
  obtain ⟨e1, e2⟩ := fIsE_some hf
  subst e2
  exact ⟨.ref ad, er.pinned e1, .ref C, _, b, rfl, fun u r => r, he, k _ _ _ (Gr.refl er.fh) (Dp.bl _)⟩
/-- isinstance(e, (C1, C2)) -/
theorem d_isE2 {T1 T2 : Str} {C1 C2 : Addr} {q1 q2 qt : Pos} {kt} (CC : ExcC X.K D) (hz : Zc (.ref D) none oe) (hf : ∃ vs, oe.data = .fields vs) (i : Nat) (he : PySem.W.kitAny X.K (.ref D) [.ref C1, .ref C2] = some b) (hm : X.mg "isinstance" = none) (hm1 : X.mg T1 = some (.ref C1)) (hm2 : X.mg T2 = some (.ref C2)) (hb : bootBuiltins "isinstance" = some (.builtin "isinstance"))
    (hi : X.N[i]? = some y := by rfl) (hv : Vis X.env.scope y := by first | exact Or.inl rfl | exact Or.inr (Or.inl rfl) | exact Or.inr (Or.inr rfl)) (hd : (y == ("__debug__" : Str)) = false := by decide) (hcd : (y == ("__classdict__" : Str)) = false := by decide)
    (hg : Gl X "isinstance" := by rfl) (hg1 : Gl X T1 := by rfl) (hg2 : Gl X T2 := by rfl) (hdb1 : (T1 == ("__debug__" : Str)) = false := by decide) (hdb2 : (T2 == ("__debug__" : Str)) = false := by decide)
    (h1 : starEach [.Name y pt, .Tuple [.Name T1 q1, .Name T2 q2] kt qt] X.env = (false, eval (.Name y pt) X.env) :: starEach [.Tuple [.Name T1 q1, .Name T2 q2] kt qt] X.env := by rfl) (h2 : starEach [.Tuple [.Name T1 q1, .Name T2 q2] kt qt] X.env = (false, eval (.Tuple [.Name T1 q1, .Name T2 q2] kt qt) X.env) :: starEach [] X.env := by rfl)
    (h3 : starEach [.Name T1 q1, .Name T2 q2] X.env = (false, eval (.Name T1 q1) X.env) :: starEach [.Name T2 q2] X.env := by rfl) (h4 : starEach [.Name T2 q2] X.env = (false, eval (.Name T2 q2) X.env) :: starEach [] X.env := by rfl)
    (hpl : (backTo pos (starEach [.Tuple [.Name T1 q1, .Name T2 q2] kt qt] X.env)).any (·.1) = false := by rfl) :
    DE (X.suite ad ((ad, oe) :: pn)) (.Call (.Name "isinstance" p) [.Name y pt, .Tuple [.Name T1 q1, .Name T2 q2] kt qt] [] pos) (fIsE ad i b) := pe_mono (pe_callB (X := X.suite ad ((ad, oe) :: pn)) (call_isET (X := X) CC hz hf) hg hm hb (pa_cons (pe_var (i := i) hi hv hd hcd) (pa_cons (pe_tup (pa_cons (pe_glob (v := .ref C1) hg1 hm1 rfl hdb1) (pa_cons (pe_glob (v := .ref C2) hg2 hm2 rfl hdb2) pa_nil h4) h3)) pa_nil h2) h1) (by decide) (by decide) h1 hpl) fun σ H Q h => by
  obtain ⟨B, Hf, ρ, r, er, hf, k⟩ := h
  obtain ⟨e1, e2⟩ := fIsE_some hf
  subst e2
  refine ⟨.ref ad, er.pinned e1, (by show 2 ≤ sizeLine; rw [sizeLine_eq]; omega), fun tp htp => ⟨tp, _, _, b, rfl, upd_same, .cons (.own C1) (.cons (.own C2) .nil), he, ?_⟩⟩
  exact k _ _ _ (Gr.newU er.fh htp) (Dp.bl _)
end
end
section
variable {K : PySem.W.Frag} {t : Value} {C : Addr} {b c : Bool}
theorem kit_own (hd : PySem.W.hasDictIn K C = true) (ht : PySem.W.typeIn K (.ref C) = some (.type "type")) (hs : PySem.W.subIn K t (.ref C) = some b) (hn : b = true ∨ (t == .ref C) = false) : PySem.W.kitOne K t (.ref C) = some b := by
  obtain ⟨cd, hc, _⟩ := PySem.W.any_some hd
  have e2 : ((PySem.W.clsIn K C).isSome && PySem.W.typeIn K (.ref C) == some (.type "type")) = true := by rw [hc, ht] <;> rfl
  unfold PySem.W.kitOne
  split
  · rename_i q
    rcases hn with z | z
    · rw [z]
    · rw [z] at q; cases q
  · show (if ((PySem.W.clsIn K C).isSome && PySem.W.typeIn K (.ref C) == some (.type "type")) = true then PySem.W.subIn K t (.ref C) else none) = some b
    rw [if_pos e2]
    exact hs
theorem kit_typ {D : Addr} {T : String} (hm : PySem.W.kitMeta T = true) (hs : PySem.W.subIn K (.ref D) (.type T) = some b) : PySem.W.kitOne K (.ref D) (.type T) = some b := by
  unfold PySem.W.kitOne
  rw [if_neg (by intro q; cases (beq_iff_eq.mp q))]
  show (if PySem.W.kitMeta T = true then PySem.W.subIn K (.ref D) (.type T) else none) = some b
  rw [if_pos hm]
  exact hs
theorem kit_two {x y : Value} (h1 : PySem.W.kitOne K t x = some b) (h2 : PySem.W.kitOne K t y = some c) : PySem.W.kitAny K t [x, y] = some (b || c) := by
  unfold PySem.W.kitAny
  rw [h1]
  cases b with
  | true => rfl
  | false =>
    show PySem.W.kitAny K t [y] = _
    unfold PySem.W.kitAny
    rw [h2]
    cases c <;> rfl
end
end DL
namespace DL
open PySem PySem.Spec PyProof.Rows L2
section
variable {X : Cx} {a b c e o : Expr} {es : List Expr} {st : Stmt} {fa fb fc : FE} {fs : FA} {pos apos cpos p : Pos}
/-! ### t.index(y) of a tuple of flat items -/
/-- the tuple at a has no dict of its own -/
def NoD (K : PySem.W.Frag) (H : Hp) (a : Addr) : Prop := (∃ ob u, H a = some (.frz ob u) ∧ ob.dict = none) ∨ ∃ ob, K.lookup a = some ob ∧ ob.dict = none
theorem NoD.at {pins : List (Addr × Obj)} {σ : L2.St} {H : Hp} {s : Shared} {a : Addr} (h : NoD X.K H a) (I : Inv X pins σ H s) : ∃ ob, s.heap.get? a = some ob ∧ ob.dict = none := by
  rcases h with ⟨ob, u, e, d⟩ | ⟨ob, e, d⟩
  · exact ⟨ob, (show ObjOk X.prog X.w H s.heap a (.frz ob u) from I.hok a _ e).1, d⟩
  · exact ⟨ob, I.kIn a ob e, d⟩
def KTup (K : PySem.W.Frag) : Prop := ∀ a ob, K.lookup a = some ob → ob.cls = .type "tuple" → ob.dict = none
theorem nod_of {K : PySem.W.Frag} {Hf H : Hp} {a : Addr} {vs : List V} (bn : Bn Hf) (kt : KTup K) (e : Same Hf H) (h : SqT K Hf a vs) : NoD K H a := by
  rcases h with (h | ⟨ob, h⟩) | ⟨ob, its, n, h, hc, _⟩
  · exact (bn.nt a vs h).elim
  · exact .inl ⟨ob, _, e _ _ h, bn.fz a ob vs h⟩
  · exact .inr ⟨ob, h, kt a ob h hc⟩
def rTIx (K : PySem.W.Frag) : V → List V → Hp → VK → Prop := fun x xs H Q => ∃ (p : Addr) (ys : List V) (y : V) (j : Nat) (z : V), x = .ref p ∧ xs = [y] ∧ SqT K H p ys ∧ flatV y = true ∧ ys.all flatV = true ∧ ys[j]? = some z ∧ eqV z y = true ∧
  (∀ (m : Nat) (z' : V), m < j → ys[m]? = some z' → eqV z' y = false) ∧ Q (.int (j : Nat)) H
theorem mt_tix : MtR X "tuple.index" (rTIx X.K) := fun pins s σ H x xs v us Q I rx rs h => by
  obtain ⟨p, ys, y, j, z, rfl, rfl, hq, fy, fys, hz, hzj, hno, q⟩ := h
  cases rx
  obtain ⟨u, rfl, ry⟩ := vals1 rs
  obtain ⟨its, r, ⟨⟨cls, dd, dt, sl⟩, ho, hc, n, hd⟩, hsz⟩ := I.tuple hq
  simp only at hc hd
  subst hc hd
  have at' : ∀ (m : Nat) (y' : V), ys[m]? = some y' → ∀ (hm : m < its.toArray.size), eqU y its.toArray[m] = eqV y' y := fun m y' e hm => by
    obtain ⟨w, hw, rw'⟩ := r.get e
    have e1 : its.toArray[m] = w := by
      obtain ⟨_, q⟩ := List.getElem?_eq_some_iff.mp hw
      simpa using q
    rw [e1, eqU_of rw' (flat_at fys e)]
  have hl : its.toArray.size = ys.length := by rw [List.size_toArray, r.length]
  have hj : j < its.toArray.size := by rw [hl]; exact (List.getElem?_eq_some_iff.mp hz).1
  refine call_meets PySem.F.slot_tuple_index ⟨_, ho, rfl⟩ PySem.F.entry_tuple_index (PySem.F.args_tuple_index_2 _ _) (TI.tuple_indexAt p its.toArray n dd sl u (eqU y) j hj ?_ ?_)
    ⟨ho, fun w hw => mem_eqAt ry fy r fys w (by simpa using hw), ⟨.int (j : Nat), H, I.tok _, ⟨_, rfl⟩, q⟩⟩
  · rw [at' j z hz]
    exact hzj
  · intro m hm hmj
    have hm' : m < ys.length := by rw [← hl]; exact hm
    rw [at' m ys[m] (List.getElem?_eq_getElem hm')]
    exact hno m _ hmj (List.getElem?_eq_getElem hm')
def tMT (K : PySem.W.Frag) (r : V → List V → Hp → VK → Prop) (to : TE) (t : TA) : TE := fun σ H Q => to σ H fun x H1 => (∃ a ys, x = .ref a ∧ SqT K H1 a ys ∧ NoD K H1 a) ∧ t σ H1 fun xs H2 => r x xs H2 Q
theorem pe_mt {id : String} {name : Str} {to : TE} {t : TA} {r : V → List V → Hp → VK → Prop} (slot : PySem.Slot "tuple" name id) (pa : PlainAttrs "tuple") (hty : typeOf (.builtin id) = pure (.type "method_descriptor")) (hm : MtR X id r) (ho : PE X o to) (ha : PA X (e :: es) t)
    (hbase : attributeBase o name X.env (eval o X.env) = eval o X.env := by rfl)
    (hfew : ((backTo cpos (starEach (e :: es) X.env)).all (fun x => !x.1) && (backToKw cpos (keywordEach [] X.env)).all (fun x => x.1.isSome)
      && decide ((e :: es).length + ([] : List Keyword).length + (if ([] : List Keyword).isEmpty then 0 else 1) < 30)) = true := by rfl)
    (hline : (apos.endLine == cpos.line) = true := by rfl) (hs : starEach (e :: es) X.env = (false, eval e X.env) :: starEach es X.env := by rfl) (hplain : (backTo cpos (starEach es X.env)).any (·.1) = false := by rfl) :
    PE X (.Call (.Attribute o name apos) (e :: es) [] cpos) (tMT X.K r to t) := ⟨fun pins s σ H Q I h =>
  wpAny_Call_method_late hbase hfew hline rfl (thn (ho.run pins s σ H _ I h) fun v s1 ⟨x, H1, I1, r1, ⟨ad, ys, ex, hq, nd⟩, q1⟩ => by
    subst ex
    cases r1
    obtain ⟨its, _, ⟨ob, hob, hc, _⟩, _⟩ := I1.tuple hq
    refine ⟨"tuple", id, pa, slot, hty, ⟨ob, hob, hc⟩, fun a' e' => ?_, ?_⟩
    · cases e'
      exact nd.at I1
    · have hA := ha.run cpos pins s1 σ H1 _ I1 q1
      rw [hs] at hA ⊢
      refine Calls.callWith_builtin (by show (false || (backTo cpos (starEach es X.env)).any (·.1)) = false; rw [hplain] <;> rfl) (Calls.evalArgs_plain ?_)
      exact thn hA fun us s2 ⟨vs, H2, I2, r2, q2⟩ => hm pins s2 σ H2 (.ref ad) vs (.ref ad) us Q I2 rfl r2 q2)⟩
/-- the first place -/
def ixD (y : PyData) : List PyData → Option Nat
  | [] => none
  | x :: xs => if PyData.eqv x y = true then some 0 else (ixD y xs).map (· + 1)
theorem ixD_some {y : PyData} : ∀ {xs : List PyData} {j : Nat}, ixD y xs = some j → (∃ z, xs[j]? = some z ∧ PyData.eqv z y = true) ∧ ∀ m z, m < j → xs[m]? = some z → PyData.eqv z y = false
  | [], _, h => by cases h
  | x :: xs, j, h => by
    unfold ixD at h
    split at h
    · rename_i q
      cases h
      exact ⟨⟨x, rfl, q⟩, fun m z hm => absurd hm (Nat.not_lt_zero _)⟩
    · rename_i q
      obtain ⟨k, h1, h2⟩ := Option.map_eq_some_iff.mp h
      subst h2
      obtain ⟨⟨z, e1, e2⟩, e3⟩ := ixD_some h1
      refine ⟨⟨z, e1, e2⟩, fun m z' hm e => ?_⟩
      cases m with
      | zero =>
        cases e
        cases hx : PyData.eqv x y with
        | true => exact absurd hx q
        | false => rfl
      | succ m => exact e3 m z' (Nat.lt_of_succ_lt_succ hm) e
def gTix : PyData → PyData → Option Res
  | .tuple ys, y => if flatD y = true ∧ ys.all flatD = true then (ixD y ys).map fun j => .fz (.int (j : Nat)) else none
  | _, _ => none
def fTix (fa fb : FE) : FE := fun ρ => (fa ρ).bind fun a => (fb ρ).bind fun b => gTix a.rd b.rd
theorem d_tix (kt : KTup X.K) (ha : DE X a fa) (hb : DE X b fb)
    (hbase : attributeBase a "index" X.env (eval a X.env) = eval a X.env := by rfl)
    (hfew : ((backTo cpos (starEach [b] X.env)).all (fun x => !x.1) && (backToKw cpos (keywordEach [] X.env)).all (fun x => x.1.isSome)
      && decide (([b] : List Expr).length + ([] : List Keyword).length + (if ([] : List Keyword).isEmpty then 0 else 1) < 30)) = true := by rfl)
    (hline : (apos.endLine == cpos.line) = true := by rfl) (hs : starEach [b] X.env = (false, eval b X.env) :: starEach [] X.env := by rfl) (hplain : (backTo cpos (starEach [] X.env)).any (·.1) = false := by rfl) :
    DE X (.Call (.Attribute a "index" apos) [b] [] cpos) (fTix fa fb) := pe_mono (pe_mt PySem.F.slot_tuple_index PySem.F.plainAttrs_tuple PySem.F.type_tuple_index mt_tix ha (pa_cons hb pa_nil hs) hbase hfew hline hs hplain) fun σ H Q h => by
  obtain ⟨B, Hf, ρ, r, er, hf, k⟩ := h
  unfold fTix at hf
  obtain ⟨ra, h1, hf⟩ := Option.bind_eq_some_iff.mp hf
  obtain ⟨rb, h2, hf⟩ := Option.bind_eq_some_iff.mp hf
  refine ⟨B, Hf, ρ, ra, er, h1, fun v Hf1 H1 g1 q1 => ?_⟩
  have er1 := er.grow g1
  unfold gTix at hf
  split at hf
  · rename_i ys hr
    split at hf
    · rename_i fl
      obtain ⟨j, h3, h4⟩ := Option.map_eq_some_iff.mp hf
      subst h4
      obtain ⟨p, vs, rfl, s1, d1⟩ := q1.tup hr
      refine ⟨⟨p, vs, rfl, sqt_mono g1.fh s1, nod_of er1.bn kt g1.fh s1⟩, B, Hf1, ρ, rb, er1, h2, fun u Hf2 H2 g2 q2 => ?_⟩
      have d2 := dpa_mono g2.f _ _ d1
      have d2' := dpa_mono g2.fh _ _ d2
      have du := q2.dp g2.fh
      obtain ⟨⟨z, e1, e2⟩, e3⟩ := ixD_some h3
      obtain ⟨w, f1, f2⟩ := dpa_get d2' e1
      have fz : ∀ (m : Nat) (d : PyData), ys[m]? = some d → flatD d = true := fun m d e => List.all_eq_true.mp fl.2 d (List.mem_of_getElem? e)
      refine ⟨p, vs, u, j, w, rfl, rfl, sqt_mono g2.fh (sqt_mono g2.f s1), flat_of du fl.1, flats_of d2' fl.2, f1, ?_, fun m z' hm hz' => ?_, k _ Hf2 H2 (g1.trans g2) (Dp.int _)⟩
      · rw [eqV_of f2 du (fz j z e1) fl.1]
        exact e2
      · have hlt : m < ys.length := by rw [← dpa_len d2']; exact (List.getElem?_eq_some_iff.mp hz').1
        obtain ⟨w2, f3, f4⟩ := dpa_get d2' (getE hlt)
        rw [f3] at hz'
        cases hz'
        rw [eqV_of f4 du (fz m _ (getE hlt)) fl.1]
        exact e3 m _ hm (getE hlt)
    · cases hf
  · cases hf
@[simp] theorem fTix_eq {ρ : Rho} : fTix fa fb ρ = (fa ρ).bind fun a => (fb ρ).bind fun b => gTix a.rd b.rd := (rfl)
@[simp] theorem gTix_t {ys : List PyData} {y : PyData} : gTix (.tuple ys) y = if flatD y = true ∧ ys.all flatD = true then (ixD y ys).map fun j => .fz (.int (j : Nat)) else none := (rfl)
end
end DL
namespace DL
open PySem PySem.Spec PyProof.Rows L2
section
variable {X : Cx} {a b c e o k1 v1 k2 v2 y x : Expr} {es : List Expr} {st : Stmt} {fa fb fc fk1 fv1 fk2 fv2 fy fx : FE} {fs : FA} {pos apos cpos p dpos : Pos}
/-! ### {k1: v1, k2: v2}.get(y, x), keys ints -/
def fzI (r : Res) : Option Int := match r with
  | .fz (.int i) => some i
  | _ => none
def fzD (r : Res) : Option PyData := match r with
  | .fz d => some d
  | _ => none
theorem fzI_some {r : Res} {i : Int} (h : fzI r = some i) : r = .fz (.int i) := by
  unfold fzI at h
  split at h
  · cases h; rfl
  · cases h
theorem fzD_some {r : Res} {d : PyData} (h : fzD r = some d) : r = .fz d := by
  unfold fzD at h
  split at h
  · cases h; rfl
  · cases h
def fDg2 (fk1 fv1 fk2 fv2 fy fx : FE) : FE := fun ρ => ((fk1 ρ).bind fzI).bind fun i1 => ((fv1 ρ).bind fzD).bind fun d1 => ((fk2 ρ).bind fzI).bind fun i2 => ((fv2 ρ).bind fzD).bind fun d2 => ((fy ρ).bind fzI).bind fun j => ((fx ρ).bind fzD).map fun d => .fz (if j = i2 then d2 else if j = i1 then d1 else d)
theorem merge2 {i1 i2 j : Int} {w1 w2 : V} : valV (mergeK [] [((Sum.inl i1 : Key), w1), (Sum.inl i2, w2)]) (Sum.inl j) = if j = i2 then some w2 else if j = i1 then some w1 else none := by
  show valV (putK (putK [] (Sum.inl i1) w1) (Sum.inl i2) w2) (Sum.inl j) = _
  rw [valV_put, valV_put]
  by_cases z2 : j = i2
  · rw [if_pos z2, if_pos (congrArg Sum.inl z2)]
  · rw [if_neg z2, if_neg (fun q => z2 (Sum.inl.inj q))]
    by_cases z1 : j = i1
    · rw [if_pos z1, if_pos (congrArg Sum.inl z1)]
    · rw [if_neg z1, if_neg (fun q => z1 (Sum.inl.inj q))]
      rfl
theorem d_dg2 {k : Nat} (hr : Room k X.A) (hk1 : DE X k1 fk1) (hv1 : DE X v1 fv1) (hk2 : DE X k2 fk2) (hv2 : DE X v2 fv2) (hy : DE X y fy) (hx : DE X x fx) (m : M2 X (.Dict [some k1, some k2] [v1, v2] dpos) "get" apos y x cpos := by exact ⟨rfl, rfl, rfl, rfl⟩) :
    DE X (.Call (.Attribute (.Dict [some k1, some k2] [v1, v2] dpos) "get" apos) [y, x] [] cpos) (fDg2 fk1 fv1 fk2 fv2 fy fx) := pe_mono (pe_dget2 (by have := hr.units; omega) (pe_disp (pps_cons hk1 hv1 (pps_cons hk2 hv2 pps_nil)) rfl rfl (fun z => by cases z) (by show 2 ≤ 15; omega)) hy hx m) fun σ H Q h => by
  obtain ⟨B, Hf, ρ, r, er, hf, k⟩ := h
  unfold fDg2 at hf
  obtain ⟨i1, h1, hf⟩ := Option.bind_eq_some_iff.mp hf
  obtain ⟨d1, h2, hf⟩ := Option.bind_eq_some_iff.mp hf
  obtain ⟨i2, h3, hf⟩ := Option.bind_eq_some_iff.mp hf
  obtain ⟨d2, h4, hf⟩ := Option.bind_eq_some_iff.mp hf
  obtain ⟨j, h5, hf⟩ := Option.bind_eq_some_iff.mp hf
  obtain ⟨d, h6, hf⟩ := Option.map_eq_some_iff.mp hf
  obtain ⟨r1, a1, b1⟩ := Option.bind_eq_some_iff.mp h1
  obtain ⟨r2, a2, b2⟩ := Option.bind_eq_some_iff.mp h2
  obtain ⟨r3, a3, b3⟩ := Option.bind_eq_some_iff.mp h3
  obtain ⟨r4, a4, b4⟩ := Option.bind_eq_some_iff.mp h4
  obtain ⟨r5, a5, b5⟩ := Option.bind_eq_some_iff.mp h5
  obtain ⟨r6, a6, b6⟩ := Option.bind_eq_some_iff.mp h6
  have b1 := fzI_some b1
  have b2 := fzD_some b2
  have b3 := fzI_some b3
  have b4 := fzD_some b4
  have b5 := fzI_some b5
  have b6 := fzD_some b6
  subst b1 b2 b3 b4 b5 b6 hf
  intro P hP
  have gN : Gr Hf H Hf (upd H P (.dK [])) := Gr.newU er.fh hP
  have fP : Hf P = none := er.fh.free hP
  have er0 := er.grow gN
  refine ⟨B, Hf, ρ, _, er0, a1, fun u1 Hf1 H1 g1 q1 => ⟨B, Hf1, ρ, _, er0.grow g1, a2, fun u2 Hf2 H2 g2 q2 => ⟨B, Hf2, ρ, _, (er0.grow g1).grow g2, a3, fun u3 Hf3 H3 g3 q3 => ⟨B, Hf3, ρ, _, ((er0.grow g1).grow g2).grow g3, a4, fun u4 Hf4 H4 g4 q4 => ?_⟩⟩⟩⟩
  have G := ((g1.trans g2).trans g3).trans g4
  have P4 : H4 P = some (.dK []) := G.h _ _ upd_same
  have F4 : Hf4 P = none := G.un P _ upd_same fP
  refine ⟨P4, [((Sum.inl i1 : Key), u2), (Sum.inl i2, u4)], ?_, (by show 2 ≤ 15; omega), ?_⟩
  · have e1 : u1 = .int i1 := q1.int rfl
    have e3 : u3 = .int i2 := q3.int rfl
    rw [e1, e3]
    rfl
  -- the dict stands
  have er4 := (((er0.grow g1).grow g2).grow g3).grow g4
  have BP : B P = none := er.bh.free hP
  have gM : Gr Hf H Hf4 (upd H4 P (.dK (mergeK [] [((Sum.inl i1 : Key), u2), (Sum.inl i2, u4)]))) := ⟨G.f, fun b ob q => by
    have nb : b ≠ P := fun z => by rw [z, hP] at q; cases q
    rw [upd_ne nb]
    exact G.h _ _ (by rw [upd_ne nb]; exact q), same_mut G.fh F4, fun b ob q n => G.un b ob (by
    have nb : b ≠ P := fun z => by rw [z, hP] at q; cases q
    rw [upd_ne nb]; exact q) n, G.bn⟩
  have erM := er.grow gM
  refine ⟨P, rfl, .inl ⟨_, .of upd_same⟩, B, Hf4, ρ, _, erM, a5, fun u5 Hf5 H5 g5 q5 => ⟨B, Hf5, ρ, _, erM.grow g5, a6, fun u6 Hf6 H6 g6 q6 => ?_⟩⟩
  have e5 : u5 = .int j := q5.int rfl
  subst e5
  refine ⟨_, DGet.k (k := Sum.inl j) (g6.h _ _ (g5.h _ _ upd_same)), ?_⟩
  rw [merge2]
  refine k _ Hf6 H6 ((gM.trans g5).trans g6) ?_
  have p2 : Dp X.K Hf6 u2 d1 := dp_mono ((((g3.f.trans g4.f).trans g5.f)).trans g6.f) _ _ q2
  have p4 : Dp X.K Hf6 u4 d2 := dp_mono (g5.f.trans g6.f) _ _ q4
  show Dp X.K Hf6 _ _
  by_cases z2 : j = i2
  · rw [if_pos z2, if_pos z2]; exact p4
  · rw [if_neg z2, if_neg z2]
    by_cases z1 : j = i1
    · rw [if_pos z1, if_pos z1]; exact p2
    · rw [if_neg z1, if_neg z1]; exact q6
end
end DL
namespace DL
open PySem PySem.Spec PyProof.Rows L2
section
variable {X : Cx} {a b c1 c2 e o x y : Expr} {es : List Expr} {st : Stmt} {fa fb fc fc1 fc2 : FE} {fs : FA} {pos apos cpos p dpos : Pos}
/-! ### xs[i], xs[j] = a, b -/
def putR (i : Nat) (fc : FE) (d : PyData) : Rho → Option Rho := fun ρ => (fc ρ).bind fun j => match ρ[i]?, j.rd with
  | some (.own xs), .int n => (ixN xs.length n).map fun m => ρ.set i (.own (xs.set m d))
  | _, _ => none
theorem ent_putR {K : PySem.W.Frag} {B Hf H : Hp} {σ : L2.St} {ρ ρ' : Rho} {i : Nat} {v : V} {d : PyData} {Q : Hp → Prop} (er : ER K B Hf H σ ρ) (hd : Dp K Hf v d) (h : putR i fc d ρ = some ρ') (k : ∀ Hf' H', GB B Hf Hf' → ER K B Hf' H' σ ρ' → Q H') :
    tVar i σ H fun o H1 => tD K fc σ H1 fun j H2 => rSetL o j v H2 fun H3 => Q H3 := by
  unfold putR at h
  obtain ⟨rj, h1, h2⟩ := Option.bind_eq_some_iff.mp h
  split at h2
  · rename_i xs n hs hj
    obtain ⟨m, h3, h4⟩ := Option.map_eq_some_iff.mp h2
    subst h4
    obtain ⟨l, hl⟩ := er.at hs
    refine ⟨.ref l, hl, B, Hf, ρ, rj, er, h1, fun w Hf1 H1 g1 q1 => ?_⟩
    have er1 := er.grow g1
    obtain ⟨b1, b2, ws, b3, b4⟩ := er1.own_there hs hl
    refine ⟨l, ws, n, m, rfl, q1.int hj, b3, by rw [dpa_len b4]; exact h3, ?_⟩
    exact k Hf1 _ (g1.gb er.bh) (er1.put hs hl (dpa_set (dp_mono g1.f _ _ hd) m b4))
  · cases h2
def gSwap (i : Nat) (fc1 fc2 : FE) (fs : FA) : FS := fun ρ => (fs ρ).bind fun rs => (frs rs).bind fun ds => match ds with
  | [d1, d2] => (putR i fc1 d1 ρ).bind fun ρ1 => (putR i fc2 d2 ρ1).map .nx
  | _ => none
theorem s_swap {x : Str} {p1 p2 t1 t2 pt pt2 : Pos} {kt k2} (i : Nat) (hN : X.N.Nodup) (ha : DA X [a, b] fs) (h1 : DE X c1 fc1) (h2 : DE X c2 fc2) (hi : X.N[i]? = some x := by rfl) (hv : Vis X.env.scope x := by first | exact Or.inl rfl | exact Or.inr (Or.inl rfl) | exact Or.inr (Or.inr rfl))
    (hd : (x == ("__debug__" : Str)) = false := by decide) (hcd : (x == ("__classdict__" : Str)) = false := by decide) (hc : X.calm = true := by rfl)
    (hs : swapsWithSole [.Tuple [.Subscript (.Name x p1) c1 t1, .Subscript (.Name x p2) c2 t2] kt pt] (.Tuple [a, b] k2 pt2) pos.line X.env = pure false := by rfl) (hw : swappedStores [.Tuple [.Subscript (.Name x p1) c1 t1, .Subscript (.Name x p2) c2 t2] kt pt] (.Tuple [a, b] k2 pt2) X.env = pure none := by rfl)
    (he : (assignEach [.Tuple [.Subscript (.Name x p1) c1 t1, .Subscript (.Name x p2) c2 t2] kt pt] X.env).map (·.2) = [assign (.Tuple [.Subscript (.Name x p1) c1 t1, .Subscript (.Name x p2) c2 t2] kt pt) X.env] := by rfl)
    (hp : PG X (.Tuple [.Subscript (.Name x p1) c1 t1, .Subscript (.Name x p2) c2 t2] kt pt) (gTup X.K 2 (L2.gCons (gSub (tVar i) (tD X.K fc1) rSetL) (L2.gCons (gSub (tVar i) (tD X.K fc2) rSetL) L2.gNil)))) :
    DS X (.Assign [.Tuple [.Subscript (.Name x p1) c1 t1, .Subscript (.Name x p2) c2 t2] kt pt] (.Tuple [a, b] k2 pt2) pos) (gSwap i fc1 fc2 fs) := ps_mono (ps_asg (pe_tupF ha) hp hs hw he) fun D σ H h => by
  obtain ⟨B, Hf, ρ, o, er, hg, k⟩ := h
  unfold gSwap at hg
  obtain ⟨rs, q1, q2⟩ := Option.bind_eq_some_iff.mp hg
  obtain ⟨ds, q3, q4⟩ := Option.bind_eq_some_iff.mp q2
  split at q4
  · obtain ⟨ρ1, q5, q6⟩ := Option.bind_eq_some_iff.mp q4
    obtain ⟨ρ2, q7, q8⟩ := Option.map_eq_some_iff.mp q6
    subst q8
    refine ⟨B, Hf, ρ, rs, er, q1, fun vs Hf1 H1 g1 qq => ?_⟩
    obtain ⟨Hf2, g2, s2, d2⟩ := RRs.freeze er g1 qq q3
    obtain ⟨v1, v2, rfl, a1, a2⟩ : ∃ v1 v2, vs = [v1, v2] ∧ Dp X.K Hf2 v1 _ ∧ Dp X.K Hf2 v2 _ := by
      cases d2 with
      | cons a1 t1 =>
        cases t1 with
        | cons a2 t2 =>
          cases t2
          exact ⟨_, _, rfl, a1, a2⟩
    refine ⟨by show 2 ≤ sizeLine; rw [sizeLine_eq]; omega, fun pt ob hpt hob => ?_⟩
    have g3 : Gr Hf H Hf2 (upd H1 pt (.frz ob (.tup [v1, v2]))) := g2.trans (Gr.newU g2.fh hpt)
    have er3 := er.grow g3
    refine ⟨pt, _, rfl, sqt_frz upd_same, rfl, _, _, rfl, ?_⟩
    refine ent_putR er3 a1 q5 fun Hf4 H4 g4 er4 => ?_
    refine ⟨_, _, rfl, ?_⟩
    refine ent_putR er4 (dp_mono g4.f _ _ a2) q7 fun Hf5 H5 g5 er5 => ?_
    exact ⟨rfl, k σ Hf5 H5 (((g3.gb er.bh).trans g4).trans g5) er5⟩
  · cases q4
/-! ### ys.append(xs.pop(e)) -/
def gAppPop (i j : Nat) (f : FE) : FS := fun ρ => match ρ[i]?, ρ[j]? with
  | some (.own ys), some (.own xs) => (f ρ).bind fun r => match r.rd with
    | .int n => if -(2 ^ 63) ≤ n ∧ n < 2 ^ 63 ∧ small ys.length then (seqIndex? n xs.length).bind fun m => (xs[m]?).map fun d => .nx ((ρ.set j (.own (xs.eraseIdx m))).set i (.own (ys ++ [d]))) else none
    | _ => none
  | _, _ => none
theorem dpa_erase {K : PySem.W.Frag} {H : Hp} : ∀ {vs : List V} {ds : List PyData} (m : Nat), DpAll K H vs ds → DpAll K H (vs.eraseIdx m) (ds.eraseIdx m)
  | _, _, _, .nil => by rw [List.eraseIdx_nil, List.eraseIdx_nil]; exact .nil
  | _, _, 0, .cons a t => by rw [List.eraseIdx_zero, List.eraseIdx_zero]; exact t
  | _, _, m + 1, .cons a t => by rw [List.eraseIdx_cons_succ, List.eraseIdx_cons_succ]; exact .cons a (dpa_erase m t)
theorem s_apppop {x y : Str} {p q apos bpos cpos dpos : Pos} (i j : Nat) (hij : i ≠ j) (ha : DE X e fa) (hp : PS X (.Expr (.Call (.Attribute (.Name y q) "append" apos) [.Call (.Attribute (.Name x p) "pop" bpos) [e] [] dpos] [] cpos) pos) (tDrop (tBM X.K "list" rAppend (tVar i) (tCons (tBM X.K "list" rPopAt (tVar j) (tCons (tD X.K fa) tNil)) tNil)))) :
    DS X (.Expr (.Call (.Attribute (.Name y q) "append" apos) [.Call (.Attribute (.Name x p) "pop" bpos) [e] [] dpos] [] cpos) pos) (gAppPop i j fa) := ps_mono hp fun D σ H h => by
  obtain ⟨B, Hf, ρ, o, er, hg, k⟩ := h
  unfold gAppPop at hg
  split at hg
  · rename_i ys xs hy hx
    obtain ⟨r, h1, h2⟩ := Option.bind_eq_some_iff.mp hg
    split at h2
    · rename_i n hn
      split at h2
      · rename_i hz
        obtain ⟨m, h3, h4⟩ := Option.bind_eq_some_iff.mp h2
        obtain ⟨d, h5, h6⟩ := Option.map_eq_some_iff.mp h4
        subst h6
        obtain ⟨l, hl⟩ := er.at hy
        obtain ⟨l2, hl2⟩ := er.at hx
        obtain ⟨_, _, ws0, w0, _⟩ := er.own_there hy hl
        obtain ⟨_, _, us0, w1, _⟩ := er.own_there hx hl2
        have ne : l ≠ l2 := fun z => er.dj i j ys xs l hij hy hx hl (z ▸ hl2)
        refine ⟨.ref l, hl, .inl ⟨rfl, _, SqL.of w0⟩, .ref l2, hl2, .inl ⟨rfl, _, SqL.of w1⟩, B, Hf, ρ, r, er, h1, fun v Hf1 H1 g1 q1 => ?_⟩
        have er1 := er.grow g1
        obtain ⟨a1, a2, ws, a3, a4⟩ := er1.own_there hy hl
        obtain ⟨b1, b2, us, b3, b4⟩ := er1.own_there hx hl2
        obtain ⟨vd, c1, c2⟩ := dpa_get b4 h5
        refine ⟨l2, us, n, m, vd, rfl, by rw [q1.int hn], b3, hz.1, hz.2.1, by rw [dpa_len b4]; exact h3, c1, ?_⟩
        have er2 := er1.put hx hl2 (dpa_erase m b4)
        have hy2 : (ρ.set j (Slot.own (xs.eraseIdx m)))[i]? = some (.own ys) := by rw [List.getElem?_set_ne (Ne.symm hij)]; exact hy
        have H2l : upd H1 l2 (.lst (us.eraseIdx m)) l = some (.lst ws) := by rw [upd_ne ne]; exact a3
        refine ⟨l, ws, vd, rfl, rfl, H2l, by rw [dpa_len a4]; exact Nat.lt_of_le_of_lt hz.2.2 (by decide), ?_⟩
        have er3 := er2.put hy2 hl (dpa_app a4 (.cons c2 .nil))
        exact k σ Hf1 _ (g1.gb er.bh) er3
      · cases h2
    · cases h2
  · cases hg
@[simp] theorem putR_eq {i : Nat} {d : PyData} {ρ : Rho} {f : FE} : putR i f d ρ = (f ρ).bind fun j => match ρ[i]?, j.rd with
  | some (.own xs), .int n => (ixN xs.length n).map fun m => ρ.set i (.own (xs.set m d))
  | _, _ => none := (rfl)
end
/-- no written tuple has a dict of its own, asked of the written part -/
def ktupB : List (Addr × Obj) → Bool
  | [] => true
  | p :: r => (match p.2.dict with
    | none => true
    | some _ => match p.2.cls with
      | .type t => t != "tuple"
      | _ => true) && ktupB r
theorem ktup_of : ∀ {K : PySem.W.Frag}, ktupB K = true → KTup K
  | [], _ => fun a ob e => by cases e
  | (b, o) :: r, h => fun a ob e hc => by
    unfold ktupB at h
    rw [Bool.and_eq_true] at h
    rw [List.lookup_cons] at e
    split at e
    · cases e
      have q := h.1
      cases hd : o.dict with
      | none => rfl
      | some d =>
        simp only [hd, hc] at q
        exact absurd q (by decide)
    · exact ktup_of h.2 a ob e hc
end DL
/-! sorted(t) of a tuple of ints, sorted(xs) of a list of ints -/
namespace DL
open PySem PySem.Spec PyProof.Rows L2
section
variable {prog : Program} {w : World} {A : Around} {E : Value → Shared → Prop} {s : Shared}
theorem gather_tup {l : Addr} {vs : List Value} {Q : List Value → Shared → Prop} (hl : IsTup s.heap l vs.toArray) (small : vs.length ≤ sizeLine)
    (h : Q vs { s with heap := (s.heap.push (seqObj "list" #[] 0)).update s.heap.objs.size (Obj.mapSeq (· ++ vs.toArray)) }) : wpAny (model prog w) A (collect (.ref l)) Q E s := by
  obtain ⟨ob, there, kind, m, items⟩ := hl
  unfold collect
  refine wpAny_bind (wpAny_runValue (codeAny_builtin entry_proto_collect' ?_))
  show wpAny _ _ (do again (.builtin "list.__iadd__" ⟨[← newList [], .ref l], []⟩)) _ _ s
  refine wpAny_bind (wpAny_newList (wpAny_pure ⟨Code.quiet_builtin _ (by decide +kernel), codeAny_builtin entry_list_iadd' ?_⟩))
  show wpAny _ _ (Builtin.List.listExtendWith (.ref s.heap.objs.size) (.ref l) (.ref s.heap.objs.size)) _ _ { s with heap := s.heap.push (seqObj "list" #[] 0) }
  unfold Builtin.List.listExtendWith
  have there' : (s.heap.push (seqObj "list" #[] 0)).get? l = some ob := Heap.get?_push_of_some _ there
  refine wpAny_bind (wpAny_typeOf (T := "tuple") ⟨ob, there', kind⟩ ?_)
  rw [if_pos (by rw [show (Value.type "tuple" == Value.type "tuple") = true from rfl]; simp)]
  refine wpAny_bind (listItems_at there' items ?_)
  refine wpAny_bind (listItems_at (xs := #[]) (n := 0) (Heap.get?_push_size _ rfl) rfl ?_)
  rw [if_neg (by simp)]
  refine wpAny_bind (listUpdate_at (xs := #[]) (n := 0) (Heap.get?_push_size _ rfl) rfl ?_ (Nat.zero_le _) (by show (#[] ++ vs.toArray).size ≤ sizeLine + 1; simp only [Array.size_append, List.size_toArray, List.length_nil]; omega))
  refine wpAny_pure ?_
  refine wpAny_bind (wpAny_load (get?_update_seq (Heap.get?_push_size _ rfl) _) ?_)
  show wpAny _ _ (pure ((#[] : Array Value) ++ vs.toArray).toList) Q E _
  rw [show ((#[] : Array Value) ++ vs.toArray).toList = vs by simp]
  exact wpAny_pure h
/-- sorted(t): as of a list, once its items are gathered -/
theorem sorted_tup {l : Addr} {vs : List Value} {ltv : Value → Value → Bool} {Q : Value → Shared → Prop} (O : SrtO.Swo ltv) (hl : IsTup s.heap l vs.toArray) (small : vs.length ≤ sizeLine)
    (hS : 2 ≤ vs.length → ∀ (g : Heap) (a : Addr), g.get? a = some (seqObj "list" vs.toArray 0) → (∀ b o, s.heap.get? b = some o → b ≠ a ∧ g.get? b = some o) → SrtO.SortableO prog w A.in1.in1 { s with heap := g } a vs ltv)
    (h : ∀ out : List Value, SrtO.Srtd ltv out → SrtO.Stb ltv out vs → Q (.ref (s.heap.objs.size + 1)) { s with heap := sortedAll s.heap vs out.toArray }) : wpAny (model prog w) A (call (.builtin "sorted") [.ref l]) Q E s := by
  refine Calls.call_function_entry kind_sorted plain_sorted entry_sorted (args_sorted1 _) ?_
  unfold Builtin.«sorted»
  refine wpAny_bind (m := checkCount "sorted" 1 1 _) (wpAny_pure ?_)
  refine wpAny_bind (gather_tup hl small ?_)
  refine wpAny_bind (wpAny_newList ?_ small)
  generalize hG : (s.heap.push (seqObj "list" #[] 0)).update s.heap.objs.size (Obj.mapSeq (· ++ vs.toArray)) = G
  have hsz : G.objs.size = s.heap.objs.size + 1 := by rw [← hG, Heap.size_update, size_push']
  have old : ∀ b o, s.heap.get? b = some o → G.get? b = some o ∧ b < s.heap.objs.size := fun b o q => by
    have hlt : b < s.heap.objs.size := Heap.lt_size q
    rw [← hG, Heap.get?_update_ne _ _ _ _ (Nat.ne_of_lt hlt)]
    exact ⟨Heap.get?_push_of_some _ q, hlt⟩
  have hoL : (G.push (seqObj "list" vs.toArray 0)).get? (s.heap.objs.size + 1) = some (seqObj "list" vs.toArray 0) := by
    rw [← hsz]; exact Heap.get?_push_size _ rfl
  show wpAny _ _ _ _ _ { s with heap := G.push (seqObj "list" vs.toArray 0) }
  rw [hsz]
  refine wpAny_bind (wpAny_holding (wpAny_call_entry slot_list_sort ⟨_, hoL, rfl⟩ entry_list_sort (SrtO.list_sort_ord O hoL small (fun h2 => hS h2 _ _ hoL fun b o q => ⟨Nat.ne_of_lt (Nat.lt_succ_of_lt (old b o q).2), Heap.get?_push_of_some _ (old b o q).1⟩) fun out hs hb => ⟨_, rfl, ?_⟩) (args_list_sort _)))
  subst hG
  exact wpAny_pure ⟨_, rfl, h out hs hb⟩
end
def rSortF (K : PySem.W.Frag) : List V → Hp → VK → Prop := fun vs H Q => ∃ (a : Addr) (ns : List Int), vs = [V.ref a] ∧ (SqL K H a (ns.map V.int) ∨ SqT K H a (ns.map V.int)) ∧
  ∀ (ms : List Int) (p : Addr), ms.Perm ns → ms.Pairwise (· ≤ ·) → H p = none → Q (.ref p) (upd H p (.lst (ms.map V.int)))
theorem cr_sortF {X : Cx} : CallR X (.builtin "sorted") (rSortF X.K) := fun pins s σ H vs us Q I r h => by
  obtain ⟨a, ns, rfl, hs | hs, q⟩ := h
  · exact cr_sortedI pins s σ H [V.ref a] us Q I r ⟨a, ns, rfl, hs, q⟩
  · obtain ⟨items, rel, hl, small⟩ := I.tuple hs
    rw [Vals.ref1 r]
    have hi := rel.ints
    refine sorted_tup SrtO.swo_int hl (by rw [← rel.length]; exact small) (fun h2 g a' _ _ => SrtO.ints_sortable hi h2) fun out h1 h2 => ?_
    obtain ⟨k1, k2, k3⟩ := SrtO.ints_out hi h1 h2
    obtain ⟨ep, there⟩ := PyProof.Rows.sortedAll_at s.heap items out.toArray
    have len : ((out.map SrtO.iv).map V.int).length ≤ sizeLine := by rw [List.length_map, k2.length_eq]; simpa using small
    exact ⟨.ref _, upd H (s.heap.objs.size + 1) (.lst ((out.map SrtO.iv).map V.int)), I.laid (t' := s.toks) (fun _ _ => PyProof.Rows.sortedAll_old) (Nat.le_succ _) ⟨len, out, ep, vals_of_ints k1, there⟩, rfl, q _ _ k2 k3 (I.hok.fresh (Nat.le_succ _))⟩
/-- the ints in order -/
def ordI (ns : List Int) : List Int := ns.mergeSort fun a b => decide (a ≤ b)
theorem ordI_perm (ns : List Int) : (ordI ns).Perm ns := List.mergeSort_perm _ _
theorem ordI_le (ns : List Int) : (ordI ns).Pairwise (· ≤ ·) := by
  have q := List.pairwise_mergeSort (le := fun a b : Int => decide (a ≤ b)) (fun a b c h1 h2 => by simp at *; omega) (fun a b => by simp; omega) ns
  exact q.imp fun h => of_decide_eq_true h
theorem ordI_uniq {ms ns : List Int} (p : ms.Perm ns) (h : ms.Pairwise (· ≤ ·)) : ms = ordI ns :=
  List.Perm.eq_of_pairwise (le := (· ≤ ·)) (fun a b _ _ h1 h2 => Int.le_antisymm h1 h2) h (ordI_le ns) (p.trans (ordI_perm ns).symm)
def gSorted : List PyData → Option Res
  | [.list xs] => (intsOf xs).map fun ns => .nw ((ordI ns).map PyData.int)
  | [.tuple xs] => (intsOf xs).map fun ns => .nw ((ordI ns).map PyData.int)
  | _ => none
theorem c_sorted {K : PySem.W.Frag} : OpC K (rSortF K) gSorted := fun B H0 Hf H vs rs c Q e1 e2 q hg k => by
  unfold gSorted at hg
  split at hg
  · rename_i xs h
    obtain ⟨ns, h1, h2⟩ := Option.map_eq_some_iff.mp hg
    subst h2
    obtain ⟨a, rfl, s⟩ := q.ints e1 h h1
    refine ⟨a, ns, rfl, .inl s, fun ms p pm po hp => ?_⟩
    have e := ordI_uniq pm po
    subst e
    exact k _ _ _ (Gr.newU e1 hp) ⟨p, _, rfl, hp, e1.free hp, upd_same, dpa_ints _⟩
  · rename_i xs h
    obtain ⟨ns, h1, h2⟩ := Option.map_eq_some_iff.mp hg
    subst h2
    obtain ⟨v, r, rfl, rfl, hr, q1⟩ := q.one h
    obtain ⟨p0, ws, rfl, s1, d1⟩ := q1.tup hr
    rw [intsOf_some h1] at d1
    have ew := dpa_ints' d1
    subst ew
    refine ⟨p0, ns, rfl, .inr (sqt_mono e1 s1), fun ms p pm po hp => ?_⟩
    have e := ordI_uniq pm po
    subst e
    exact k _ _ _ (Gr.newU e1 hp) ⟨p, _, rfl, hp, e1.free hp, upd_same, dpa_ints _⟩
  · cases hg
@[simp] theorem gSorted_l {xs : List PyData} : gSorted [.list xs] = (intsOf xs).map fun ns => .nw ((ordI ns).map PyData.int) := (rfl)
@[simp] theorem gSorted_t {xs : List PyData} : gSorted [.tuple xs] = (intsOf xs).map fun ns => .nw ((ordI ns).map PyData.int) := (rfl)
end DL
/-! xs[a:b] = t with a tuple on the right; t[::2]; xs.insert(i, y) -/
namespace DL
open PySem PySem.Spec PyProof.Rows L2 HT
section
variable {prog : Program} {w : World} {A : Around} {E : Value → Shared → Prop} {s : Shared}
set_option maxRecDepth 100000 in
theorem put_cut_tup {p q sl : Addr} {old new : Array Value} {n : Nat} {vl vu : Value} {a c : Nat} {Q : Unit → Shared → Prop}
    (ep : s.heap.get? p = some { cls := .type "list", data := .seq old n }) (hq : IsTup s.heap q new) (hne : p ≠ q)
    (hsl : s.heap.IsSliceOf sl vl vu .none) (p1 : IsPart vl (some (a : Int))) (p2 : IsPart vu (some (c : Int))) (hac : a ≤ c) (hc : c ≤ old.size)
    (hsz : old.size + new.size ≤ sizeLine) (h : Q () { s with heap := s.heap.update p (Obj.mapSeq fun xs => xs.extract 0 a ++ new ++ xs.extract c xs.size) }) :
    wpAny (model prog w) A (setItem (.ref p) (.ref sl) (.ref q)) Q E s := by
  have hp : s.heap.IsList p old := PySem.IsL.isList ep
  obtain ⟨oq, hoq, hcq, nq, hdq⟩ := id hq
  obtain ⟨os, hos, hcs, hds⟩ := id hsl
  have tsl : s.TypeIs (.ref sl) "slice" := ⟨os, hos, hcs⟩
  have nstep : ¬ ((rawPart none == rawInt 0) = true) := Bool.false_ne_true
  have nsame : Builtin.List.listSameRef (.ref p) (.ref q) = false := by
    unfold Builtin.List.listSameRef
    exact beq_eq_false_iff_ne.mpr hne
  have emax : (max (a : Int) (c : Int)).toNat = c := by omega
  have z2 : ((fun xs : Array Value => xs.extract 0 a ++ new ++ xs.extract c xs.size) old).size ≤ sizeLine + 1 := by
    simp only [Array.size_append, Array.size_extract]
    omega
  unfold setItem
  try with_reducible refine wpAny_holding ?_
  first | refine wpAny_bind (wpAny_pure ?_) | skip
  refine wpAny_bind (wpAny_sequenceKey hp.typeIs (by decide) ?_)
  refine wpAny_bind (wpAny_callSpecial?_slot (name := Str.ofString "__setitem__") hp.typeIs PySem.slot_list_setitem
    (wpAny_call_entry PySem.slot_list_setitem hp.typeIs PySem.entry_list_setitem ?_ (PySem.args_list_setitem _ _ _)))
  show wpAny _ _ (Builtin.List.listSubscript? (.ref sl) >>= _) _ _ s
  refine wpAny_bind ?_
  unfold Builtin.List.listSubscript?
  refine wpAny_bind (wpAny_specialOf tsl slice_no_index ?_)
  simp only [Option.isNone_none, if_true]
  refine wpAny_pure ?_
  show wpAny _ _ (typeOf (.ref sl) >>= _) _ _ s
  refine wpAny_bind (wpAny_typeOf tsl ?_)
  first
    | rw [if_neg (by decide)]
    | refine PySem.W.KFB.if_not (by decide) ?_
  rw [listSliceParts_eq]
  refine wpAny_bind (wpAny_bind (wpAny_field hos hds (x := .none) rfl (wpAny_bind (wpAny_listPart .none ?_))))
  rw [if_neg nstep]
  refine wpAny_bind (wpAny_field hos hds (x := vl) rfl (wpAny_bind (wpAny_listPart p1 ?_)))
  refine wpAny_bind (wpAny_field hos hds (x := vu) rfl (wpAny_bind (wpAny_listPart p2 (wpAny_pure ?_))))
  first
    | simp only [nsame, Bool.false_eq_true, if_false]
    | refine PySem.W.KFB.if_not nsame ?_
    | (dsimp only
       rw [if_neg (by rw [nsame]; exact Bool.false_ne_true)])
  refine wpAny_bind (m := Builtin.List.listAllItems (.ref q) "must assign iterable to extended slice") ?_
  unfold Builtin.List.listAllItems
  refine wpAny_bind (wpAny_typeOf hq.typeIs ?_)
  first
    | refine PySem.W.KFB.if_so (by decide) ?_
    | rw [if_pos (by decide)]
    | simp only [beq_self_eq_true, Bool.or_true, if_true]
  unfold Builtin.List.listItems
  refine wpAny_bind (wpAny_seqItems hoq hdq (wpAny_pure ?_))
  refine wpAny_bind (wpAny_bind (wpAny_seqItems ep rfl (wpAny_pure ?_)))
  refine wpAny_bind (wpAny_of_eq ((sliceIndices_raw (some (a : Int)) (some (c : Int)) none old.size (by simp)).trans (congrArg (pure : Int × Int × Int → Sem (Int × Int × Int)) (bounds_run hac hc))) ?_)
  show wpAny _ _ (if ((1 : Int) == 1) = true then _ else _) _ _ s
  rw [if_pos (by decide)]
  refine wpAny_bind (wpAny_rule ?_)
  first
    | simp only [notLongL hsz, Bool.false_eq_true, if_false]
    | refine PySem.W.KFB.if_not (notLongL hsz) ?_
  first | refine wpAny_bind (wpAny_pure ?_) | skip
  show wpAny _ _ (updateSeq p (fun xs => xs.extract 0 ((a : Int)).toNat ++ new ++ xs.extract (max (a : Int) (c : Int)).toNat xs.size) >>= _) _ _ s
  rw [emax, Int.toNat_natCast]
  refine wpAny_bind (wpAny_updateSeq (hz := Nat.le_trans (Nat.le_add_right _ _) hsz) (_hz' := z2) ep rfl ?_)
  refine wpAny_bind (wpAny_letGo ?_)
  first
    | exact wpAny_bind (wpAny_pure (wpAny_pure ⟨.none, rfl, wpAny_pure h⟩))
    | exact wpAny_pure ⟨.none, rfl, wpAny_pure h⟩
end
section
variable {X : Cx}
theorem put_cutV {pins : List (Addr × Obj)} {s : Shared} {σ : L2.St} {H : Hp} {p q sl : Addr} {xs ys : List V} {a c : Int} {vl vu : Value} {Q : Unit → Shared → Prop} (I : Inv X pins σ H s)
    (hH : H p = some (.lst xs)) (hB : SqT X.K H q ys) (hsl : s.heap.IsSliceOf sl vl vu .none) (p1 : IsPart vl (some a)) (p2 : IsPart vu (some c)) (h0 : 0 ≤ a) (hac : a ≤ c) (hc : c ≤ xs.length)
    (hz : xs.length + ys.length ≤ sizeLine) (h : ∀ s', Inv X pins σ (upd H p (.lst (xs.take a.toNat ++ ys ++ xs.drop c.toNat))) s' → Q () s') :
    wpAny (model X.prog X.w) X.A (setItem (.ref p) (.ref sl) (.ref q)) Q X.xe s := by
  obtain ⟨z, its, n, r, hl, e⟩ := I.lstM hH
  obtain ⟨its2, r2, ht, hz2⟩ := I.tuple hB
  have hl2 := r2.length
  obtain ⟨a', rfl⟩ := Int.eq_ofNat_of_zero_le h0
  obtain ⟨c', rfl⟩ := Int.eq_ofNat_of_zero_le (Int.le_trans h0 hac)
  simp only [Int.toNat_natCast] at h
  have hne : p ≠ q := fun z => by
    subst z
    obtain ⟨o, ho, hcl, _⟩ := ht
    rw [e] at ho
    cases ho
    exact absurd (show Value.type "list" = Value.type "tuple" from hcl) (by decide)
  refine put_cut_tup (a := a') (c := c') e ht hne hsl p1 p2 (by omega) (by rw [List.size_toArray]; omega) (by rw [List.size_toArray, List.size_toArray]; omega) (h _ ?_)
  refine I.lset (its' := its.take a' ++ its2 ++ its.drop c') (t' := s.toks) hH e ?_ (Vals.append (Vals.append (r.take _) r2) (r.drop _)) ?_
  · exact splice_eq its its2 a' c'
  · rw [List.length_append, List.length_append, List.length_take, List.length_drop]
    omega
/-- o[lo:hi] = a tuple -/
def gCut (K : PySem.W.Frag) (to : TE) (tl th : TO) : TG := fun v σ H Q => to σ H fun x H1 => tl σ H1 fun l H2 => th σ H2 fun u H3 => ∃ p xs q ys a c, x = .ref p ∧ v = .ref q ∧ l = some a ∧ u = some c ∧ H3 p = some (.lst xs) ∧ SqT K H3 q ys ∧ 0 ≤ a ∧ a ≤ c ∧ c ≤ xs.length ∧ xs.length + ys.length ≤ sizeLine ∧ Q σ (upd H3 p (.lst (xs.take a.toNat ++ ys ++ xs.drop c.toNat)))
theorem pg_cut {o : Expr} {lo hi : Option Expr} {to : TE} {tl th : TO} {p2 pos : Pos} (ho : PE X o to) (hl : PO X lo tl) (hh : PO X hi th)
    (ha : ∀ v, assign (.Subscript o (.Slice lo hi none p2) pos) X.env v = (do
      let ov ← holding [v] (eval o X.env)
      let iv ← holding [v, ov] (eval (.Slice lo hi none p2) X.env)
      standAt pos
      holding [v, ov, iv] (setItem ov iv v)
      release [iv, v, ov] []) := by intro _; rfl) : PG X (.Subscript o (.Slice lo hi none p2) pos) (gCut X.K to tl th) := by
  refine ⟨fun pins s σ H v u Q I r h => ?_⟩
  rw [ha]
  refine wpAny_bind (wpAny_holding (thn (ho.run pins s σ H _ I h) fun ov s1 ⟨x, H1, I1, r1, q1⟩ => ?_))
  refine wpAny_bind (wpAny_holding ?_)
  refine wpAny_Slice (thn (hl.run pins s1 σ H1 _ I1 q1) fun vl s2 ⟨l, H2, I2, pl, q2⟩ => ?_)
  refine thn (hh.run pins s2 σ H2 _ I2 q2) fun vu s3 ⟨w, H3, I3, pu, q3⟩ => ?_
  refine thn (po_none.run pins s3 σ H3 (fun o H4 => o = none ∧ H4 = H3) I3 ⟨rfl, rfl⟩) fun vs s4 ⟨z, H4, I4, ps, ez, e4⟩ => ?_
  subst ez e4
  have evs : vs = .none := by cases ps; rfl
  subst evs
  obtain ⟨p, xs, q, ys, a, c, e1, e2, e3, e5, hp, hq, h0, hac, hc, hz, k⟩ := q3
  subst e1 e2 e3 e5
  cases r1
  cases r
  have I5 : Inv X pins σ H4 { s4 with heap := s4.heap.push { cls := .type "slice", data := .fields #[vl, vu, .none] } } := I4.kept (t' := s4.toks) fun b ob q => Heap.get?_push_of_some _ q
  refine wpAny_bind (wpAny_standAt (wpAny_bind (wpAny_holding ?_)))
  refine put_cutV I5 hp hq (Heap.IsSliceOf.new _ vl vu .none) pl pu h0 hac hc hz fun s6 I6 => ?_
  exact wpAny_release ⟨σ, _, I6, k⟩
section
variable {a b e : Expr} {lo hi : Option Expr} {fa : FE} {o1 o2 : Rho → Option (Option Int)} {pos p p2 tpos : Pos}
def cutS' (i : Nat) (ρ : Rho) (ys : List PyData) (l h : Option Int) : Option Out := match ρ[i]?, l, h with
  | some (.own xs), some a, some c => if 0 ≤ a ∧ a ≤ c ∧ c ≤ xs.length ∧ small (xs.length + ys.length) then some (.nx (ρ.set i (.own (xs.take a.toNat ++ ys ++ xs.drop c.toNat)))) else none
  | _, _, _ => none
def tupS : PyData → Option (List PyData)
  | .tuple ys => some ys
  | _ => none
/-- xs[lo:hi] = e -/
def gCutS (i : Nat) (o1 o2 : Rho → Option (Option Int)) (fa : FE) : FS := fun ρ => (fa ρ).bind fun r => (tupS r.rd).bind fun ys => (o1 ρ).bind fun l => (o2 ρ).bind fun h => cutS' i ρ ys l h
theorem s_cut {x : Str} (i : Nat) (ha : DE X e fa) (hl : DO X lo o1) (hh : DO X hi o2) (hv : PE X (.Name x p) (tVar i)) (hs : swapsWithSole [.Subscript (.Name x p) (.Slice lo hi none p2) tpos] e pos.line X.env = pure false := by rfl) (hw : swappedStores [.Subscript (.Name x p) (.Slice lo hi none p2) tpos] e X.env = pure none := by rfl)
    (h1 : (assignEach [.Subscript (.Name x p) (.Slice lo hi none p2) tpos] X.env).map (·.2) = [assign (.Subscript (.Name x p) (.Slice lo hi none p2) tpos) X.env] := by rfl)
    (hq : ∀ v, assign (.Subscript (.Name x p) (.Slice lo hi none p2) tpos) X.env v = (do
      let ov ← holding [v] (eval (.Name x p) X.env)
      let iv ← holding [v, ov] (eval (.Slice lo hi none p2) X.env)
      standAt tpos
      holding [v, ov, iv] (setItem ov iv v)
      release [iv, v, ov] []) := by intro _; rfl) :
    DS X (.Assign [.Subscript (.Name x p) (.Slice lo hi none p2) tpos] e pos) (gCutS i o1 o2 fa) := ps_mono (ps_asg ha (pg_cut hv hl hh hq) hs hw h1) fun D σ H h => by
  obtain ⟨B, Hf, ρ, o, er, hg, k⟩ := h
  unfold gCutS at hg
  obtain ⟨r, h1, h2⟩ := Option.bind_eq_some_iff.mp hg
  obtain ⟨ys, h3, h4⟩ := Option.bind_eq_some_iff.mp h2
  obtain ⟨l, h5, h6⟩ := Option.bind_eq_some_iff.mp h4
  obtain ⟨u, h7, h8⟩ := Option.bind_eq_some_iff.mp h6
  have hr : r.rd = .tuple ys := by
    unfold tupS at h3
    split at h3
    · rename_i q; rw [q]; cases h3; rfl
    · cases h3
  unfold cutS' at h8
  split at h8
  · rename_i xs a c hs
    split at h8
    · rename_i z
      cases h8
      refine ⟨B, Hf, ρ, r, er, h1, fun v Hf1 H1 g1 q1 => ?_⟩
      obtain ⟨q, ws, rfl, s1, d1⟩ := q1.tup hr
      have er1 := er.grow g1
      obtain ⟨pl, hpl⟩ := er1.at hs
      refine ⟨.ref pl, hpl, B, Hf1, ρ, some a, er1, h5, fun Hf2 H2 g2 => ⟨B, Hf2, ρ, some c, er1.grow g2, h7, fun Hf3 H3 g3 => ?_⟩⟩
      have er3 := (er1.grow g2).grow g3
      have g13 := g2.trans g3
      obtain ⟨b1, b2, us, b3, b4⟩ := er3.own_there hs hpl
      have lu := dpa_len b4
      have lw := dpa_len d1
      refine ⟨pl, us, q, ws, a, c, rfl, rfl, rfl, rfl, b3, sqt_mono (g13.f.trans er3.fh) s1, z.1, z.2.1, by rw [lu]; exact z.2.2.1, by rw [lu, lw]; exact sm_line z.2.2.2, ?_⟩
      exact k σ Hf3 _ (((g1.trans g2).trans g3).gb er.bh) (er3.put hs hpl (dpa_app (dpa_app (dpa_take _ b4) (dpa_mono g13.f _ _ d1)) (dpa_drop _ b4)))
    · cases h8
  · cases h8
end
end
@[simp] theorem tupS_t {xs : List PyData} : tupS (.tuple xs) = some xs := (rfl)
@[simp] theorem gCutS_eq {i : Nat} {o1 o2 : Rho → Option (Option Int)} {fa : FE} {ρ : Rho} : gCutS i o1 o2 fa ρ = (fa ρ).bind fun r => (tupS r.rd).bind fun ys => (o1 ρ).bind fun l => (o2 ρ).bind fun h => cutS' i ρ ys l h := (rfl)
theorem cutS'_own {i : Nat} {ρ : Rho} {xs ys : List PyData} {a c : Int} (h : ρ[i]? = some (.own xs)) (h0 : 0 ≤ a) (h1 : a ≤ c) (h2 : c ≤ xs.length) (h3 : small (xs.length + ys.length)) : cutS' i ρ ys (some a) (some c) = some (.nx (ρ.set i (.own (xs.take a.toNat ++ ys ++ xs.drop c.toNat)))) := by
  unfold cutS'
  rw [h]
  dsimp only
  rw [if_pos ⟨h0, h1, h2, h3⟩]
/-! ### t[::2] -/
section
variable {prog : Program} {w : World} {A : Around} {E : Value → Shared → Prop} {s : Shared}
def everyK {α : Type} (k : Nat) (xs : List α) : List α := (List.range (if 0 < xs.length then (xs.length - 1) / k + 1 else 0)).filterMap fun m => xs[m * k]?
theorem cutK_applied {sl : Addr} {vl vu vs : Value} {n k : Nat} {Q : Int × Int × Nat → Shared → Prop} (hs : s.heap.IsSliceOf sl vl vu vs) (pl : IsPart vl none) (pu : IsPart vu none) (ps : IsPart vs (some (k : Int))) (hk : 0 < k)
    (h : Q (0, (k : Int), if 0 < n then (n - 1) / k + 1 else 0) s) : wpAny (model prog w) A (Builtin.Slice.sliceApplied (.ref sl) (pure (n : Int))) Q E s := by
  obtain ⟨os, hos, hcs, hds⟩ := id hs
  unfold Builtin.Slice.sliceApplied Builtin.Slice.sliceFields
  refine wpAny_bind (wpAny_bind (wpAny_field hos hds (x := vl) rfl (wpAny_bind (wpAny_field hos hds (x := vu) rfl (wpAny_bind (wpAny_field hos hds (x := vs) rfl (wpAny_pure ?_)))))))
  refine wpAny_bind (slicePart_ ps ?_)
  show wpAny _ _ (if (((k : Nat) : Int) == 0) = true then _ else _) _ _ s
  rw [if_neg (by simp; omega)]
  refine wpAny_bind (slicePart_ pl (wpAny_bind (slicePart_ pu (wpAny_bind (wpAny_pure ?_)))))
  show wpAny _ _ (match Builtin.Slice.sliceAdjust none none (k : Int) (n : Int) with | (lo, hi) => pure (lo, (k : Int), Builtin.Slice.slicePlaces lo hi (k : Int))) _ _ s
  have e : Builtin.Slice.sliceAdjust none none (k : Int) (n : Int) = (0, (n : Int)) := by
    unfold Builtin.Slice.sliceAdjust
    have h1 : ¬ ((k : Int) < 0) := by omega
    simp only [h1, if_false]
  rw [e]
  have e2 : Builtin.Slice.slicePlaces 0 (n : Int) (k : Int) = if 0 < n then (n - 1) / k + 1 else 0 := by
    unfold Builtin.Slice.slicePlaces
    have h1 : ((k : Int) > 0) := by omega
    simp only [h1, if_true, Int.sub_zero]
    by_cases hn : 0 < n
    · rw [if_pos (by omega), if_pos hn]
      have e3 : (n : Int) - 1 = ((n - 1 : Nat) : Int) := by omega
      rw [e3, ← Int.natCast_ediv]
      generalize (n - 1) / k = z
      omega
    · rw [if_neg (by omega), if_neg hn]
      rfl
  show wpAny _ _ (pure (0, (k : Int), Builtin.Slice.slicePlaces 0 (n : Int) (k : Int))) _ _ s
  rw [e2]
  exact wpAny_pure h
theorem pick_every (xs : Array Value) (k : Nat) : ((List.range (if 0 < xs.size then (xs.size - 1) / k + 1 else 0)).filterMap fun (m : Nat) => xs[((0 : Int) + (m : Int) * (k : Int)).toNat]?).toArray = (everyK k xs.toList).toArray := by
  unfold everyK
  congr 1
  rw [Array.length_toList]
  refine fmap_congr fun m _ => ?_
  have e : ((0 : Int) + (m : Int) * (k : Int)).toNat = m * k := by
    rw [Int.zero_add, ← Int.natCast_mul, Int.toNat_natCast]
  rw [e, Array.getElem?_toList]
theorem every_len {α : Type} (k : Nat) (xs : List α) : (everyK k xs).length ≤ xs.length := by
  unfold everyK
  refine Nat.le_trans (List.length_filterMap_le _ _) ?_
  rw [List.length_range]
  split
  · have := Nat.div_le_self (xs.length - 1) k
    omega
  · omega
theorem getItem_tuple_every {t sl : Addr} {items : Array Value} {vl vu vs : Value} {k : Nat} {Q : Value → Shared → Prop} (ht : IsTup s.heap t items) (hs : s.heap.IsSliceOf sl vl vu vs) (pl : IsPart vl none) (pu : IsPart vu none) (ps : IsPart vs (some (k : Int))) (hk : 2 ≤ k)
    (h : Q (.ref s.heap.objs.size) { s with heap := s.heap.push { cls := .type "tuple", data := .seq (everyK k items.toList).toArray } })
    (hsz : items.size ≤ sizeLine) : wpAny (model prog w) A (getItem (.ref t) (.ref sl)) Q E s := by
  have htake : sizeOk (.seq (everyK k items.toList).toArray) := by
    show (everyK k items.toList).toArray.size ≤ sizeLine
    have := every_len k items.toList
    rw [Array.length_toList] at this
    exact Nat.le_trans (by rw [List.size_toArray]; exact this) hsz
  obtain ⟨os, hos, hcs, hds⟩ := id hs
  have hTs : s.TypeIs (.ref sl) "slice" := ⟨os, hos, hcs⟩
  unfold getItem
  try with_reducible refine wpAny_holding ?_
  first | refine wpAny_bind (wpAny_pure ?_) | skip
  refine wpAny_bind (wpAny_sequenceKey ht.typeIs (by decide) ?_)
  refine wpAny_bind (wpAny_callSpecial?_slot (name := Str.ofString "__getitem__") ht.typeIs PyProof.Rows.slot_tuple_getitem
    (wpAny_call_entry PyProof.Rows.slot_tuple_getitem ht.typeIs entry_tuple_getitem ?_ (args_tuple_getitem _ _)))
  show wpAny _ _ (Builtin.Tuple.tupleItemsOf (.ref t) >>= _) _ _ s
  refine wpAny_bind (tupleItemsOf_ ht ?_)
  refine wpAny_bind (wpAny_typeOf hTs ?_)
  rw [if_pos (by decide)]
  refine wpAny_bind (cutK_applied hs pl pu ps (by omega) ?_)
  have hno : ¬ ((((0 : Int)) == 0 && ((k : Nat) : Int) == 1 && (if 0 < items.size then (items.size - 1) / k + 1 else 0) == items.size) = true) := by
    intro q
    rw [Bool.and_eq_true, Bool.and_eq_true] at q
    have := q.1.2
    simp at this
    omega
  show wpAny _ _ (if ((0 : Int) == 0 && ((k : Nat) : Int) == 1 && (if 0 < items.size then (items.size - 1) / k + 1 else 0) == items.size) = true then _ else _) _ _ s
  rw [if_neg hno, pick_every]
  first
    | exact wpAny_bind (m := Builtin.Tuple.tupleExact _) (wpAny_newObj_type (wpAny_pure ⟨_, rfl, wpAny_pure h⟩) htake)
    | exact wpAny_bind (m := Builtin.Tuple.tupleExact _) (wpAny_newObj_type (wpAny_bind (wpAny_pure (wpAny_pure ⟨_, rfl, wpAny_pure h⟩))) htake)
    | exact wpAny_bind (wpAny_bind (m := Builtin.Tuple.tupleExact _) (wpAny_newObj_type (wpAny_pure (wpAny_pure ⟨_, rfl, wpAny_pure h⟩)) htake))
    | exact wpAny_bind (wpAny_bind (m := Builtin.Tuple.tupleExact _) (wpAny_newObj_type (wpAny_pure ⟨_, rfl, wpAny_pure h⟩) htake))
end
theorem paired_range {xs : List V} {its : List Value} (r : Vals xs its) (k : Nat) : ∀ l : List Nat, Vals (l.filterMap fun m => xs[m * k]?) (l.filterMap fun m => its[m * k]?)
  | [] => Paired.nil
  | m :: l => by
    have ih := paired_range r k l
    rw [List.filterMap_cons, List.filterMap_cons]
    cases h : xs[m * k]? with
    | none =>
      have : its[m * k]? = none := by
        rw [List.getElem?_eq_none_iff] at h ⊢
        have := r.length
        omega
      rw [this]
      exact ih
    | some v =>
      obtain ⟨u, hu, ru⟩ := r.get h
      rw [hu]
      exact Paired.cons ru ih
def tEvery (K : PySem.W.Frag) (k : Nat) (te : TE) : TE := fun σ H Q => te σ H fun x H1 => ∃ a xs, x = .ref a ∧ SqT K H1 a xs ∧ NewT (everyK k xs) H1 Q
theorem pe_every {X : Cx} {e : Expr} {te : TE} {k : Nat} {kk : Nat} {p1 p3 pos : Pos} (hk : 2 ≤ k) (he : PE X e te) : PE X (.Subscript e (.Slice none none (some (.Constant (.int (k : Int)) kk p1)) p3) pos) (tEvery X.K k te) := by
  refine ⟨fun pins s σ H Q I h => ?_⟩
  refine Subscript_ (thn (he.run pins s σ H _ I h) fun v s1 ⟨x, H1, I1, r1, q1⟩ => ?_)
  obtain ⟨a, xs, ex, hx, q⟩ := q1
  subst ex
  cases r1
  have hst : PO X (some (.Constant (.int (k : Int)) kk p1)) (tPart (tC (.int (k : Int)))) := po_some pe_int
  refine wpAny_Slice (thn (po_none.run pins s1 σ H1 (fun o H2 => o = none ∧ H2 = H1) I1 ⟨rfl, rfl⟩) fun vl s2 ⟨l, H2, I2, pl, el, e2⟩ => ?_)
  subst el e2
  refine thn (po_none.run pins s2 σ H2 (fun o H3 => o = none ∧ H3 = H2) I2 ⟨rfl, rfl⟩) fun vu s3 ⟨u, H3, I3, pu, eu, e3⟩ => ?_
  subst eu e3
  refine thn (hst.run pins s3 σ H3 (fun o H4 => o = some (k : Int) ∧ H4 = H3) I3 ⟨(k : Int), rfl, rfl, rfl⟩) fun vs s4 ⟨o, H4, I4, ps, eo, e4⟩ => ?_
  subst eo e4
  have I5 : Inv X pins σ H4 { s4 with heap := s4.heap.push { cls := .type "slice", data := .fields #[vl, vu, vs] } } := I4.kept (t' := s4.toks) fun b ob q => Heap.get?_push_of_some _ q
  show wpAny (model X.prog X.w) X.A (subscriptTail e (.Slice none none (some (.Constant (.int (k : Int)) kk p1)) p3) (.ref a) (.ref s4.heap.objs.size)) (EP X pins σ Q) X.xe { s4 with heap := s4.heap.push { cls := .type "slice", data := .fields #[vl, vu, vs] } }
  obtain ⟨its, r, ht, hz⟩ := I5.tuple hx
  have hlen := r.length
  refine tail_any (ops := [.ref a, .ref s4.heap.objs.size]) ht.typeIs PyProof.Rows.slot_tuple_getitem.lookup ?_ (by with_unfolding_all rfl)
  refine getItem_tuple_every ht (Heap.IsSliceOf.new _ vl vu vs) pl pu ps hk ?_ (by rw [List.size_toArray]; omega)
  have rr : Vals (everyK k xs) (everyK k its) := by
    unfold everyK
    rw [← hlen]
    exact paired_range r k _
  have := every_len k xs
  exact laid_tup (t' := s4.toks) I5 rr (by omega) q
def gEvery (k : Nat) : PyData → Option Res
  | .tuple xs => some (.fz (.tuple (everyK k xs)))
  | _ => none
theorem dpa_filter {K : PySem.W.Frag} {H : Hp} {vs : List V} {ds : List PyData} (h : DpAll K H vs ds) (k : Nat) : ∀ l : List Nat, DpAll K H (l.filterMap fun m => vs[m * k]?) (l.filterMap fun m => ds[m * k]?)
  | [] => .nil
  | m :: l => by
    have ih := dpa_filter h k l
    rw [List.filterMap_cons, List.filterMap_cons]
    cases e : vs[m * k]? with
    | none =>
      have : ds[m * k]? = none := by
        rw [List.getElem?_eq_none_iff] at e ⊢
        have := dpa_len h
        omega
      rw [this]
      exact ih
    | some v =>
      obtain ⟨d, hd, rd⟩ := dpa_at h e
      rw [hd]
      exact .cons rd ih
theorem d_every {X : Cx} {e : Expr} {fa : FE} {k kk : Nat} {p1 p3 pos : Pos} (hk : 2 ≤ k) (ha : DE X e fa) : DE X (.Subscript e (.Slice none none (some (.Constant (.int (k : Int)) kk p1)) p3) pos) (f1 (gEvery k) fa) := pe_mono (pe_every hk ha) fun σ H Q h => by
  obtain ⟨B, Hf, ρ, r, er, hf, kq⟩ := h
  unfold f1 at hf
  obtain ⟨ra, h1, hf⟩ := Option.bind_eq_some_iff.mp hf
  unfold gEvery at hf
  split at hf
  · rename_i xs hx
    cases hf
    refine ⟨B, Hf, ρ, ra, er, h1, fun v Hf1 H1 g1 q1 => ?_⟩
    obtain ⟨p, vs, rfl, s1, d1⟩ := q1.tup hx
    refine ⟨p, vs, rfl, sqt_mono g1.fh s1, fun n ob hn hd => ?_⟩
    have gn := Gr.new (o := .frz ob (.tup (everyK k vs))) g1.fh hn (.tupF hd)
    have dd : DpAll X.K Hf1 (everyK k vs) (everyK k xs) := by
      unfold everyK
      rw [dpa_len d1]
      exact dpa_filter d1 k _
    exact kq _ _ _ (g1.trans gn) (Dp.tup (sqt_frz upd_same) (dpa_mono gn.f _ _ dd))
  · cases hf
@[simp] theorem gEvery_t {k : Nat} {xs : List PyData} : gEvery k (.tuple xs) = some (.fz (.tuple (everyK k xs))) := (rfl)
/-! ### xs.insert(i, y) -/
section
variable {X : Cx} {a b : Expr} {fa fb : FE} {pos apos cpos p : Pos}
def insS (i : Nat) (ρ : Rho) (d : PyData) : PyData → Option Out
  | .int n => (ownL ρ[i]?).bind fun xs => if 0 ≤ n ∧ n < 2 ^ 63 ∧ small xs.length then some (.nx (ρ.set i (.own (xs.take n.toNat ++ [d] ++ xs.drop n.toNat)))) else none
  | _ => none
def gIns (i : Nat) (fa fb : FE) : FS := fun ρ => (fa ρ).bind fun j => (fb ρ).bind fun r => r.fr.bind fun d => insS i ρ d j.rd
abbrev rIns : V → List V → Hp → VK → Prop := fun x vs H Q => ∃ (l : Addr) (xs : List V) (i : Int) (y : V), x = .ref l ∧ vs = [.int i, y] ∧ H l = some (.lst xs) ∧ xs.length < sizeLine ∧ 0 ≤ i ∧ i < 2 ^ 63 ∧ Q .non (upd H l (.lst (xs.take i.toNat ++ [y] ++ xs.drop i.toNat)))
theorem s_ins {x : Str} (i : Nat) (ha : DE X a fa) (hb : DE X b fb) (hp : PS X (.Expr (.Call (.Attribute (.Name x p) "insert" apos) [a, b] [] cpos) pos) (tDrop (tBM X.K "list" rIns (tVar i) (tCons (tD X.K fa) (tCons (tD X.K fb) tNil))))) :
    DS X (.Expr (.Call (.Attribute (.Name x p) "insert" apos) [a, b] [] cpos) pos) (gIns i fa fb) := ps_mono hp fun D σ H q => by
  obtain ⟨B, Hf, ρ, o, er, hg, k⟩ := q
  unfold gIns at hg
  obtain ⟨j, h1, h2⟩ := Option.bind_eq_some_iff.mp hg
  obtain ⟨r, h3, h4⟩ := Option.bind_eq_some_iff.mp h2
  obtain ⟨d, h5, h6⟩ := Option.bind_eq_some_iff.mp h4
  unfold insS at h6
  split at h6
  · rename_i n hj
    obtain ⟨xs, h7, h8⟩ := Option.bind_eq_some_iff.mp h6
    have hs : ρ[i]? = some (.own xs) := by
      unfold ownL at h7
      split at h7
      · rename_i q; rw [q]; cases h7; rfl
      · cases h7
    split at h8
    · rename_i hz
      cases h8
      obtain ⟨l, hl⟩ := er.at hs
      obtain ⟨a1, a2, ws, a3, a4⟩ := er.own_there hs hl
      refine ⟨.ref l, hl, .inl ⟨rfl, _, SqL.of a3⟩, B, Hf, ρ, j, er, h1, fun v Hf1 H1 g1 q1 => ⟨B, Hf1, ρ, r, er.grow g1, h3, fun w Hf2 H2 g2 q2 => ?_⟩⟩
      obtain ⟨Hf3, g3, s3, d3⟩ := q2.freeze (er.grow g1) g2 h5
      have er3 := (er.grow g1).grow g3
      obtain ⟨b1, b2, ws2, b3, b4⟩ := er3.own_there hs hl
      refine ⟨l, ws2, n, w, rfl, by rw [q1.int hj], b3, by rw [dpa_len b4]; exact Nat.lt_of_le_of_lt hz.2.2 (by decide), hz.1, hz.2.1, ?_⟩
      exact k _ Hf3 _ ((g1.trans g3).gb er.bh) (er3.put hs hl (dpa_app (dpa_app (dpa_take _ b4) (.cons d3 .nil)) (dpa_drop _ b4)))
    · cases h8
  · cases h6
@[simp] theorem gIns_eq {i : Nat} {ρ : Rho} : gIns i fa fb ρ = (fa ρ).bind fun j => (fb ρ).bind fun r => r.fr.bind fun d => insS i ρ d j.rd := (rfl)
@[simp] theorem insS_i {i : Nat} {ρ : Rho} {d : PyData} {n : Int} : insS i ρ d (.int n) = (ownL ρ[i]?).bind fun xs => if 0 ≤ n ∧ n < 2 ^ 63 ∧ small xs.length then some (.nx (ρ.set i (.own (xs.take n.toNat ++ [d] ++ xs.drop n.toNat)))) else none := (rfl)
end
end DL
/-! a call that is handed a slot's own list, and yields a number, a text, True, False or None -/
namespace DL
open PySem PySem.Spec PyProof.Rows L2
theorem flat_any {K : PySem.W.Frag} {H H' : Hp} {v : V} {d : PyData} (h : Dp K H v d) (f : flatD d = true) : Dp K H' v d := by
  cases h with
  | non => exact .non
  | bl b => exact .bl b
  | int i => exact .int i
  | str x => exact .str x
  | lst _ _ => exact absurd (show false = true from f) Bool.false_ne_true
  | tup _ _ => exact absurd (show false = true from f) Bool.false_ne_true
theorem RRs.still {K : PySem.W.Frag} {B Hf H Hf' H' : Hp} {σ : L2.St} {ρ : Rho} (er : ER K B Hf H σ ρ) (g : Gr Hf H Hf' H') : ∀ {vs : List V} {rs : List Res}, RRs K B H Hf' H' vs rs → ∃ Hf2, Same Hf' Hf2 ∧ Same Hf2 H' ∧ Bn Hf2 ∧ DpAll K Hf2 vs (rs.map Res.rd)
  | _, _, .nil => ⟨Hf', Same.refl _, g.fh, g.bn er.bn, .nil⟩
  | v :: vs, r :: rs, .cons a t => by
    obtain ⟨Hf2, s1, s2, b, d2⟩ := RRs.still er g t
    have go : ∀ (p : Addr) (ws : List V) (ys : List PyData), v = .ref p → H' p = some (.lst ws) → DpAll K Hf' ws ys → ∃ Hf3, Same Hf' Hf3 ∧ Same Hf3 H' ∧ Bn Hf3 ∧ DpAll K Hf3 (v :: vs) (.list ys :: rs.map Res.rd) := fun p ws ys e h5 h6 => by
      subst e
      cases w : Hf2 p with
      | none =>
        refine ⟨upd Hf2 p (.lst ws), s1.trans (same_upd w), fun c o q => ?_, b.upd .lst, .cons (.lst (SqL.of upd_same) (dpa_mono (s1.trans (same_upd w)) _ _ h6)) (dpa_mono (same_upd w) _ _ d2)⟩
        by_cases z : c = p
        · subst z; rw [upd_same] at q; cases q; exact h5
        · rw [upd_ne z] at q; exact s2 _ _ q
      | some o =>
        have q := s2 p o w
        rw [h5] at q
        cases q
        exact ⟨Hf2, s1, s2, b, .cons (.lst (SqL.of w) (dpa_mono s1 _ _ h6)) d2⟩
    cases r with
    | fz y => exact ⟨Hf2, s1, s2, b, .cons (dp_mono s1 _ _ a) d2⟩
    | nw ys =>
      obtain ⟨p, ws, e, h0, n3, h5, h6⟩ := a
      exact go p ws ys e h5 h6
    | br ys =>
      obtain ⟨p, ws, e, n3, n4, h5, h6⟩ := a
      exact go p ws ys e h5 h6
section
variable {X : Cx} {e : Expr} {es : List Expr} {fs : FA} {pos p : Pos} {k n : Nat} {f : Addr} {fd : FuncData} {ps : List Str} {F : FD} {x : Str}
def fCallL (F : FD) (fs : FA) : FE := fun ρ => (fs ρ).bind fun rs => (F (rs.map Res.rd)).bind fun d => if flatD d = true then some (.fz d) else none
theorem ent_callL {K : PySem.W.Frag} {E : XK} (hn : ∀ rs, (∃ ρ, fs ρ = some rs) → rs.length = n) : ∀ σ H Q, tD K (fCallL F fs) σ H Q → tCall (spD K n F) [] E (tDA K fs) σ H Q := fun σ H Q h => by
  obtain ⟨B, Hf, ρ, r, er, hf, q⟩ := h
  unfold fCallL at hf
  obtain ⟨rs, h1, h2⟩ := Option.bind_eq_some_iff.mp hf
  obtain ⟨d, h3, h4⟩ := Option.bind_eq_some_iff.mp h2
  split at h4
  · rename_i hfl
    cases h4
    refine ⟨B, Hf, ρ, rs, er, h1, fun vs Hf' H' g' qq => ?_⟩
    obtain ⟨Hf2, s1, s2, b2, d2⟩ := RRs.still er g' qq
    have hl : (rs.map Res.rd).length = n := by rw [List.length_map]; exact hn rs ⟨ρ, h1⟩
    show spD K n F (vs ++ []) H' Q E
    rw [List.append_nil]
    refine ⟨Hf2, rs.map Res.rd, d, ⟨s2, b2⟩, d2, hl, h3, fun v Hf3 H3 g3 dp => q v Hf' H3 ⟨g'.f, g'.h.trans g3.h, (s1.trans g3.f).trans g3.fh, g'.un, g'.bn⟩ (flat_any dp hfl)⟩
  · cases h4
theorem d_callL (G : FnOk X.prog X.w X.K X.mg X.base CX0 k f fd ps (spD X.K n F)) (hr : Room k X.A) (hm : X.mg x = some (.ref f)) (hk : PySem.W.keepIn X.K (.ref f) = true) (hb : Binds X.K fd ps []) (ha : DA X (e :: es) fs) (hn : ALen fs n)
    (hg : Gl X x := by rfl) (hdb : (x == ("__debug__" : Str)) = false := by decide) (he : starEach (e :: es) X.env = (false, eval e X.env) :: starEach es X.env := by rfl) (hpl : (backTo pos (starEach es X.env)).any (·.1) = false := by rfl) :
    DE X (.Call (.Name x p) (e :: es) [] pos) (fCallL F fs) := pe_mono (pe_call G hr hg hm hk hb .nil pass0 ha hdb he hpl) (ent_callL hn)
@[simp] theorem fCallL_eq {ρ : Rho} : fCallL F fs ρ = (fs ρ).bind fun rs => (F (rs.map Res.rd)).bind fun d => if flatD d = true then some (.fz d) else none := (rfl)
@[simp] theorem flatD_bool {b : Bool} : flatD (.bool b) = true := (rfl)
@[simp] theorem flatD_none : flatD .none = true := (rfl)
end
end DL
/-! t * k for any k -/
namespace DL
open PySem PySem.Spec PyProof.Rows L2 HT
theorem tuple_mul_same (l : Addr) (items : Array Value) (n : Nat) (dd : Option Addr) (sl : Array (Option Value)) (x : Int) (u : Tok) (c0 : (decide (x < -(2 ^ 63)) || decide (x ≥ 2 ^ 63)) = false) (c1 : (items.isEmpty || x == 1) = true) :
    Meets (Builtin.«tuple.__mul__» ⟨[.ref l, .int x u], []⟩) (fun _ R s => s.heap.get? l = some { cls := .type "tuple", dict := dd, data := .seq items n, slots := sl } ∧ R (.ok (.ret (Value.ref l))) s) :=
  .of_wp fun prog w A R s h => by
    obtain ⟨hp, g, d, tk, os⟩ := s
    obtain ⟨hl, h⟩ := h
    have f1 := AutoSeq1.idx_int
    wp_walk using wpAny_loadPart' hl
    repeat (first
      | (refine wpAny_ite_false (decide_eq_false (by rw [c0]; exact Bool.false_ne_true)) ?_; wp_walk using wpAny_loadPart' hl)
      | (refine wpAny_ite_true (decide_eq_true c1) ?_; wp_walk using wpAny_loadPart' hl))
    exact ⟨_, rfl, h⟩
theorem tuple_mul_none (l : Addr) (items : Array Value) (n : Nat) (dd : Option Addr) (sl : Array (Option Value)) (x : Int) (u : Tok) (c0 : (decide (x < -(2 ^ 63)) || decide (x ≥ 2 ^ 63)) = false) (c1 : (items.isEmpty || x == 1) = false) (c2 : (decide (x ≤ 0) || items.isEmpty) = true) :
    Meets (Builtin.«tuple.__mul__» ⟨[.ref l, .int x u], []⟩) (fun _ R s => s.heap.get? l = some { cls := .type "tuple", dict := dd, data := .seq items n, slots := sl } ∧
      R (.ok (.ret (Value.ref s.heap.objs.size))) { s with heap := s.heap.push { cls := Value.type "tuple", data := Data.seq #[] }, toks := s.toks }) :=
  .of_wp fun prog w A R s h => by
    obtain ⟨hp, g, d, tk, os⟩ := s
    obtain ⟨hl, h⟩ := h
    have f1 := AutoSeq1.idx_int
    wp_walk using wpAny_loadPart' hl
    repeat (first
      | (refine wpAny_ite_false (decide_eq_false (by rw [c0]; exact Bool.false_ne_true)) ?_; wp_walk using wpAny_loadPart' hl)
      | (refine wpAny_ite_false (decide_eq_false (by rw [c1]; exact Bool.false_ne_true)) ?_; wp_walk using wpAny_loadPart' hl)
      | (refine wpAny_ite_true (decide_eq_true c2) ?_; wp_walk using wpAny_loadPart' hl))
    exact ⟨_, rfl, h⟩

section
variable {X : Cx}
/-- t * 1, () * k -/
def rRepS (K : PySem.W.Frag) : R2 := fun x y H Q => ∃ l k xs, x = .ref l ∧ y = .int k ∧ SqT K H l xs ∧ (xs = [] ∨ k = 1) ∧ 0 ≤ k ∧ k ≤ 1000 ∧ Q (.ref l) H
theorem op_repS : OpR X (binaryOp .Mult) (rRepS X.K) := fun pins s σ H x y v u Q I rx ry h => by
  obtain ⟨l, k, xs, rfl, rfl, hT, hne, k1, k2, q⟩ := h
  cases rx
  obtain ⟨tk, rfl⟩ := ry
  obtain ⟨items, rel, ⟨⟨c0, d0, dat, slo⟩, ho, e1, m, e2⟩, _⟩ := I.tuple hT
  dsimp only at e1 e2
  subst e1 e2
  have le := rel.length
  have g0 : (decide (k < -(2 ^ 63)) || decide (k ≥ 2 ^ 63)) = false := by rw [decide_eq_false (show ¬ k < -(2 ^ 63) by omega), decide_eq_false (show ¬ k ≥ 2 ^ 63 by omega)]; rfl
  have g1 : (items.toArray.isEmpty || k == 1) = true := by
    rcases hne with h | h
    · subst h
      cases items with
      | nil => rfl
      | cons _ _ => cases le
    · subst h; rw [Bool.or_eq_true]; right; rfl
  have core : wpAny (model X.prog X.w) X.A (call (.builtin "tuple.__mul__") [.ref l, .int k tk]) (EP X pins σ Q) X.xe s := call_meets PySem.F.slot_tuple_mul ⟨_, ho, rfl⟩ PySem.F.entry_tuple_mul (PySem.F.args_tuple_mul_2 _ _) (tuple_mul_same l items.toArray m d0 slo k tk g0 g1) ⟨ho, ⟨.ref l, H, I, rfl, q⟩⟩
  exact wpAny_binaryOp_repeat_ref (T := "tuple") (U := "int") (by decide) ⟨_, ho, rfl⟩ (fun s' => typeIs_int s' k tk) noFill_tuple_mul PySem.F.fills_int_mul PySem.F.slot_int_rmul repeat_tuple PySem.F.slot_int_index.lookup
    (call_meets PySem.F.slot_int_rmul (typeIs_int s k tk) PySem.F.entry_int_rmul (PySem.F.args_int_rmul_2 _ _) (int_rmul_tuple k tk l items.toArray m d0 slo) ⟨ho, rfl, ⟨_, ho, rfl⟩, core⟩)
def gRepS : PyData → PyData → Option Res
  | .tuple xs, .int k => if (xs = [] ∨ k = 1) ∧ 0 ≤ k ∧ k ≤ 1000 then some (.fz (.tuple xs)) else none
  | _, _ => none
theorem o_repS {K : PySem.W.Frag} : Op2 K (rRepS K) gRepS := fun B H0 Hf H v u a b c Q e1 e2 q1 q2 hg k => by
  unfold gRepS at hg
  split at hg
  · rename_i xs n h1 h2
    split at hg
    · rename_i z
      cases hg
      obtain ⟨l, vs, rfl, s1, d1⟩ := q1.tup h1
      have hl := dpa_len d1
      refine ⟨l, n, vs, rfl, q2.int h2, sqt_mono e1 s1, ?_, z.2.1, z.2.2, ?_⟩
      · rcases z.1 with w | w
        · subst w; cases d1; exact .inl rfl
        · exact .inr w
      · exact k _ Hf H (Gr.refl e1) (Dp.tup s1 d1)
    · cases hg
  · cases hg
def gMulT (a b : PyData) : Option Res := (gMul a b).or (gRepS a b)
theorem d_mulT {a b : Expr} {pos : Pos} {fa fb : FE} (ha : DE X a fa) (hb : DE X b fb) : DE X (.BinOp a .Mult b pos) (f2 gMulT fa fb) := d_op (op_mulD.or op_repS) (Op2.or o_mul o_repS) ha hb
end
end DL
/-! enumerate(t) of a tuple -/
namespace DL
open PySem PySem.Spec PyProof.Rows L2 HT
open AutoSeq1 (wpAny_loadPart')
theorem meets_enum_tup (a : Addr) (us : Array Value) :
    Meets (Builtin.«enumerate.__new__» ⟨[.type "enumerate", .ref a], []⟩) (fun _ R s => s.heap.IsTuple a us ∧
      R (.ok (.ret (.ref (s.heap.push { cls := .type "tuple_iterator", data := .fields #[.ref a, .int 0 0] }).objs.size)))
        { s with heap := (s.heap.push { cls := .type "tuple_iterator", data := .fields #[.ref a, .int 0 0] }).push { cls := .type "enumerate", data := .fields #[.none, .bool false, .ref s.heap.objs.size, rawInt 0, .none, .none] } }) :=
  .of_wp fun prog w A R s h => by
    obtain ⟨hh, g, d, tk, os⟩ := s
    obtain ⟨ht, h⟩ := h
    have hsub := sub_enumerate
    have go : ∀ {A' : Around} {E : Value → Shared → Prop} {Q : Value → Shared → Prop}, Q (.ref hh.objs.size) ⟨hh.push { cls := .type "tuple_iterator", data := .fields #[.ref a, .int 0 0] }, g, d, tk, os⟩ → wpAny (model prog w) A' (pyIter (.ref a)) Q E ⟨hh, g, d, tk, os⟩ :=
      fun q => (begins_tuple a us).iter prog w _ _ ⟨hh, g, d, tk, os⟩ _ ht q
    wp_walk using go
    refine wpAny_stack_any fun st => wpAny_pure ?_
    split
    · rename_i c _ _ _ _ _
      cases (c == Value.type "enumerate")
      · wp_walk using go
        exact ⟨_, rfl, h⟩
      · wp_walk using go
        exact ⟨_, rfl, h⟩
    · wp_walk using go
      exact ⟨_, rfl, h⟩
section
variable {prog : Program} {w : World} {A : Around} {E : Value → Shared → Prop} {s : Shared}
theorem call_enum_tup {a : Addr} {us : Array Value} {Q : Value → Shared → Prop} (ht : s.heap.IsTuple a us)
    (k : ∀ g, IsEnum g (s.heap.objs.size + 1) s.heap.objs.size 0 .none → g.IsTupleIter s.heap.objs.size a 0 → g.objs.size = s.heap.objs.size + 2 → (∀ b o, s.heap.get? b = some o → g.get? b = some o) → Q (.ref (s.heap.objs.size + 1)) { s with heap := g }) :
    wpAny (model prog w) A (call (.type "enumerate") [.ref a]) Q E s := by
  refine callType_new F.called_enumerate (by decide) (F.typeCall_enumerate_1 _) (F.newCall_enumerate_1 _) (fun b => F.args_object_init_2 b _) F.entry_enumerate_new (meets_enum_tup a us) ⟨ht, ?_⟩
  have z : (s.heap.push { cls := .type "tuple_iterator", data := .fields #[.ref a, .int 0 0] }).objs.size = s.heap.objs.size + 1 := Heap.size_push ..
  show _ ∧ _
  rw [z]
  have e1 : IsEnum ((s.heap.push { cls := .type "tuple_iterator", data := .fields #[.ref a, .int 0 0] }).push { cls := .type "enumerate", data := .fields #[.none, .bool false, .ref s.heap.objs.size, rawInt 0, .none, .none] }) (s.heap.objs.size + 1) s.heap.objs.size 0 .none := by
    have q := Heap.get?_push_size (s.heap.push { cls := .type "tuple_iterator", data := .fields #[.ref a, .int 0 0] }) (o := { cls := .type "enumerate", data := .fields #[.none, .bool false, .ref s.heap.objs.size, rawInt 0, .none, .none] }) rfl
    rw [z] at q
    exact q
  exact ⟨⟨_, e1, rfl⟩, k _ e1 ⟨_, Heap.get?_push_of_some _ (Heap.get?_push_size _ rfl), rfl, rfl⟩ (by rw [Heap.size_push, z]) fun b o x => Heap.get?_push_of_some _ (Heap.get?_push_of_some _ x)⟩
end
/-- the tuple at a, each item in a new pair -/
def IteT (K : PySem.W.Frag) (a : Addr) : It where
  go i H := ∃ (xs : List V) (x : V), SqT K H a xs ∧ xs[i]? = some x
  yld i H v H' := ∃ (T : Addr) (x : V), v = .ref T ∧ H T = none ∧ H' = upd H T (.tup [.int (i : Nat), x]) ∧ ∀ xs, SqT K H a xs → xs[i]? = some x
  stop i H := ∃ xs : List V, SqT K H a xs ∧ xs.length ≤ i
theorem turn_enumT {P : Program} {w : World} {K : PySem.W.Frag} {elts : List Expr} {kk : Nat} {tpos : Pos} (a e it : Addr) :
    Turn P w K (.Tuple elts kk tpos) (IteT K a) [e, it] e (fun i g => (∃ old, IsEnum g e it ((i : Nat) : Int) old) ∧ g.IsTupleIter it a i ∧ e ≠ it) where
  mem := List.mem_cons_self
  obj := fun i g st b hb => by
    obtain ⟨⟨old, h1⟩, ⟨o, ho, _, hd⟩, _⟩ := st
    rcases List.mem_cons.mp hb with z | z
    · subst z; exact ⟨_, h1, fun _ q => nomatch q⟩
    · rw [List.mem_singleton.mp z]; exact ⟨o, ho, fun v q => by rw [hd] at q; cases q⟩
  keep := fun i g g' st k => by
    obtain ⟨⟨old, h1⟩, ⟨o, ho, hr⟩, h3⟩ := st
    exact ⟨⟨old, k e (by simp) _ h1⟩, ⟨o, k it (by simp) o ho, hr⟩, h3⟩
  item := by
    intro X hP hw hK hc i pins s σ H E I hf st hg
    subst hP hw hK
    obtain ⟨⟨old, h1⟩, h2, h3⟩ := st
    obtain ⟨xs, x, hq, hx⟩ := hg
    obtain ⟨us, rv, ht, hz⟩ := I.tuple hq
    have ht' : s.heap.IsTuple a us.toArray := ht
    obtain ⟨u, hu, ru⟩ := rv.get hx
    have lt1 : e < s.heap.objs.size := Heap.lt_size h1
    have lt2 : it < s.heap.objs.size := by obtain ⟨_, q, _⟩ := h2; exact Heap.lt_size q
    have n1 : a ≠ it := fun z => by
      obtain ⟨o, ho, oc, _⟩ := h2
      obtain ⟨o', ho', oc', _⟩ := ht'
      rw [z, ho] at ho'
      cases ho'
      rw [oc] at oc'
      exact absurd oc' (by decide)
    have n2 : a ≠ e := fun z => by
      obtain ⟨o', ho', oc', _⟩ := ht'
      rw [z, h1] at ho'
      cases ho'
      have oc2 : Value.type "enumerate" = Value.type "tuple" := oc'
      exact absurd oc2 (by decide)
    have D := Draws.tuple (prog := X.prog) (w := X.w) (A := X.A.in1) (I.ok.hd hc) it a n1 us.toArray
    have lti : i < us.toArray.size := by
      have := (List.getElem?_eq_some_iff.mp hu).1
      rw [List.size_toArray]
      exact this
    refine wpAny_pyNext_enum_itemD D h1 ⟨h2, ht'⟩ lti h3 (by simp only [List.mem_cons, List.mem_singleton, List.not_mem_nil, or_false, not_or]; exact ⟨h3, fun z => n2 z.symm⟩) fun y g tk hy ho hst hT hsz hk => ?_
    have ey : y = u := by
      have hy' : us[i]? = some y := by simpa using hy
      rw [hu] at hy'
      exact (Option.some.inj hy').symm
    subst ey
    refine ⟨_, rfl, wpAny_letOwnedTupleGo_enum (s := { s with heap := g, toks := tk + 1 }) ho fun g2 he2 sb => ?_⟩
    have hT2 : g2.get? s.heap.objs.size = some { cls := .type "tuple", data := .seq #[.int i tk, y] } := (sb.2 _ (Nat.ne_of_gt lt1)).trans hT
    have old : ∀ b ob, b ∉ [e, it] → s.heap.get? b = some ob → g2.get? b = some ob := fun b ob hb q => by
      have b1 : b ≠ e := fun z => hb (by simp [z])
      have b2 : b ≠ it := fun z => hb (by simp [z])
      exact (sb.2 b b1).trans (hk b ob b1 b2 q)
    have new : ObjOk X.prog X.w (upd H s.heap.objs.size (.tup [.int (i : Nat), x])) g2 s.heap.objs.size (.tup [.int (i : Nat), x]) :=
      ⟨by show 2 ≤ sizeLine; decide, [.int i tk, y], .cons ⟨_, rfl⟩ (.cons ru .nil), ⟨_, hT2, rfl, _, rfl⟩⟩
    have I1 := I.turnedNew (t' := tk + 1) (ch := [e, it]) old hf (Nat.le_refl _) new
    refine ⟨.ref s.heap.objs.size, _, I1, rfl, ⟨_, x, rfl, I.hok.fresh (Nat.le_refl _), rfl, fun ys hy => by rw [I.tuple_inj hy hq]; exact hx⟩, ⟨⟨y, ?_⟩, ?_, h3⟩, fun b hb => ?_⟩
    · rw [show ((i + 1 : Nat) : Int) = (i : Int) + 1 by omega]; exact he2
    · obtain ⟨⟨o, qo, qr⟩, _⟩ := hst
      exact ⟨o, (sb.2 it (Ne.symm h3)).trans qo, qr⟩
    · have lb : b < s.heap.objs.size := by
        rcases List.mem_cons.mp hb with z | z
        · rw [z]; exact lt1
        · rw [List.mem_singleton.mp z]; exact lt2
      rw [upd_ne (Nat.ne_of_lt lb)]
      exact (hf b hb).1
  done := by
    intro X hP hw hK hc i pins s σ H E I hf st hg
    subst hP hw hK
    obtain ⟨⟨old, h1⟩, h2, h3⟩ := st
    obtain ⟨xs, hq, hx⟩ := hg
    obtain ⟨us, rv, ht, hz⟩ := I.tuple hq
    have ht' : s.heap.IsTuple a us.toArray := ht
    obtain ⟨f0, f1, f2, f3, f4, f5⟩ := hf it (by simp)
    have hl := rv.length
    have D : Draws X.prog X.w X.A.in1 it [it, a] i (fun _ _ => False) (fun j g => (g.IsTupleIter it a j ∧ g.IsTuple a us.toArray) ∧ j = i) := {
      live := fun _ _ st => let ⟨o, ho, _⟩ := st.1.1; ⟨o, ho⟩
      frame := fun _ _ _ st hk => by
        obtain ⟨⟨⟨o, ho, hr⟩, o2, ho2, hr2⟩, e⟩ := st
        exact ⟨⟨⟨o, hk it (by simp) o ho, hr⟩, o2, hk a (by simp) o2 ho2, hr2⟩, e⟩
      item := fun j s Q E hj st _ => absurd st.2 (Nat.ne_of_lt hj)
      done := fun s Q E st hE => wpAny_nextOf_tuple_end (I.ok.hd hc) st.1.1 st.1.2 (by simp; omega) hE }
    exact wpAny_pyNext_enum_endD D h1 ⟨⟨h2, ht'⟩, rfl⟩ fun g eb => ⟨rfl, I.turned (t' := s.toks) (fun b o hb q => eb b o hb q) f0 f1 f3 f4 f5⟩
  self := fun A i s Q E st h => by
    obtain ⟨⟨_, h1⟩, _⟩ := st
    exact wpAny_pyIter_enum h1 h
def iEnumT (K : PySem.W.Frag) (ta : TA) : TI := fun σ H R => ta σ H fun vs H1 => ∃ a xs, vs = [.ref a] ∧ SqT K H1 a xs ∧ R (IteT K a) H1
theorem pi_enumT {X : Cx} {e : Expr} {ta : TA} {p pos tpos : Pos} {elts : List Expr} {kk : Nat} (hg : Gl X "enumerate") (hm : X.mg "enumerate" = none) (ha : PA X [e] ta) (hs : starEach [e] X.env = [(false, eval e X.env)] := by rfl) :
    PI X (.Tuple elts kk tpos) (.Call (.Name "enumerate" p) [e] [] pos) (iEnumT X.K ta) := ⟨fun pins s σ H R I h => by
  refine Call_ (ld_blt I hg hm boot_enumerate (PyProof.Rows.callWith_type1 (thn (ha.run pos pins s σ H _ I h) fun us s1 ⟨vs, H1, I1, r1, q1⟩ => ?_) hs rfl))
  obtain ⟨a, xs, ex, hq, q⟩ := q1
  subst ex
  rw [Vals.ref1 r1]
  obtain ⟨its, rv, ht, hz⟩ := I1.tuple hq
  refine call_enum_tup ht fun g he hit hsz hk => wpAny_pyIter_enum he ?_
  have I2 : Inv X pins σ H1 { s1 with heap := g } := I1.kept (t' := s1.toks) hk
  refine ⟨s1.heap.objs.size + 1, [s1.heap.objs.size + 1, s1.heap.objs.size], _, _, H1, rfl, I2, turn_enumT a (s1.heap.objs.size + 1) s1.heap.objs.size, ⟨⟨.none, he⟩, hit, Nat.succ_ne_self _⟩, fun b hb => ?_, q⟩
  have lb : s1.heap.objs.size ≤ b := by
    rcases List.mem_cons.mp hb with z | z
    · rw [z]; exact Nat.le_add_right _ _
    · rw [List.mem_singleton.mp z]; exact Nat.le_refl _
  exact I1.fpOk lb (I1.hok.fresh lb)⟩
end DL
/-! tuple(range(..)), list(range(..)), for i, x in enumerate(t) of a tuple -/
namespace DL
open PySem PySem.Spec PyProof.Rows L2 HT
theorem itd_enumT {K : PySem.W.Frag} {Hf : Hp} {a : Addr} {vs : List V} {ds : List PyData} (h : SqT K Hf a vs) (hd : DpAll K Hf vs ds) : ItdE K Hf (IteT K a) ds where
  go := fun i H s hi => by
    obtain ⟨v, h1, h2⟩ := dpa_get hd (getE hi)
    exact ⟨vs, v, sqt_mono s h, h1⟩
  stop := fun i H s hi => ⟨vs, sqt_mono s h, by rw [dpa_len hd]; exact hi⟩
  yld := fun i H x H' Hg d s1 s2 e y => by
    obtain ⟨T, y, rfl, hT, rfl, yy⟩ := y
    obtain ⟨v, h1, h2⟩ := dpa_get hd e
    have ev : v = y := by
      have q := yy vs (sqt_mono (s1.trans s2) h)
      rw [h1] at q
      exact Option.some.inj q
    subst ev
    exact ⟨Gr.newU s2 hT, T, _, rfl, SqT.of upd_same, .cons (.int _) (.cons (dp_mono s1 _ _ h2) .nil)⟩
section
variable {X : Cx} {tg a b c e : Expr} {es : List Expr} {fa fb fc : FE} {fs : FA} {pos : Pos}
/-- enumerate of a tuple -/
def enT (fs : FA) : Rho → Option (List PyData) := fun ρ => (fs ρ).bind fun rs => match rs with
  | [.fz (.tuple xs)] => some (enD 0 xs)
  | _ => none
def tDIET (K : PySem.W.Frag) (f : FA) : TI := fun σ H R => ∃ B Hf ρ ds, ER K B Hf H σ ρ ∧ enT f ρ = some (enD 0 ds) ∧ ∀ J Hf' H', Gr Hf H Hf' H' → ItdE K Hf' J ds → R J H'
theorem enD_inj : ∀ {xs : List PyData} {j : Nat} {ys : List PyData}, enD j xs = enD j ys → xs = ys
  | [], _, [], _ => rfl
  | [], _, _ :: _, e => by cases e
  | _ :: _, _, [], e => by cases e
  | x :: xs, j, y :: ys, e => by
    injection e with e1 e2
    injection e1 with e1
    injection e1 with _ e1
    injection e1 with e1 _
    rw [e1, enD_inj e2]
theorem i_enumT {p tpos : Pos} {elts : List Expr} {kk : Nat} (hm : X.mg "enumerate" = none) (ha : DA X [e] fs) (hg : Gl X "enumerate" := by rfl) (hs : starEach [e] X.env = [(false, eval e X.env)] := by rfl) :
    PI X (.Tuple elts kk tpos) (.Call (.Name "enumerate" p) [e] [] pos) (tDIET X.K fs) := pi_mono (pi_enumT hg hm ha hs) fun σ H R q => by
  obtain ⟨B, Hf, ρ, ds, er, hf, k⟩ := q
  unfold enT at hf
  obtain ⟨rs, h1, h2⟩ := Option.bind_eq_some_iff.mp hf
  split at h2
  · rename_i xs
    have e := enD_inj (Option.some.inj h2)
    subst e
    refine ⟨B, Hf, ρ, _, er, h1, fun vs Hf' H' g q => ?_⟩
    cases q with
    | cons q t =>
      cases t
      obtain ⟨l, ws, rfl, s1, d1⟩ := q.tup rfl
      exact ⟨_, _, rfl, sqt_mono g.fh s1, k _ _ _ g (itd_enumT s1 d1)⟩
  · cases h2
/-- for i, x in enumerate(t) -/
theorem s_forET {us : FUs} {n kk : Nat} {elts : List Expr} {p tpos cpos : Pos} {body : List Stmt} {g : FS} (hm : X.mg "enumerate" = none) (ha : DA X [a] fs) (h : DGs X elts us) (hb : DSs X body g) (hp : PassesOwn (model X.prog X.w) X.A X.env X.xe := by exact PassesOwn.never) (hc : X.calm = true := by rfl)
    (hg : Gl X "enumerate" := by rfl) (hq : starEach [a] X.env = [(false, eval a X.env)] := by rfl) (hs : ∀ x, foldedSetIterable (.Call (.Name "enumerate" p) [a] [] cpos) X.env x = pure x := by intro _; rfl) (hn : (assignEach elts X.env).length = n := by rfl) (hst : (assignEach elts X.env).findIdx? (·.1) = none := by rfl) :
    DS X (.For (.Tuple elts kk tpos) (.Call (.Name "enumerate" p) [a] [] cpos) body [] pos) (gFor (enT fs) (uTup n us) g) := ps_mono (ps_for hp hc (i_enumT hm ha hg hq) (g_tupT h hc hn hst) hb hs) fun D σ H h => by
  obtain ⟨B, Hf, ρ, o, er, hg, k⟩ := h
  unfold gFor at hg
  obtain ⟨ys, h1, h2⟩ := Option.bind_eq_some_iff.mp hg
  obtain ⟨xs, rfl⟩ : ∃ xs, ys = enD 0 xs := by
    unfold enT at h1
    obtain ⟨rs, _, h4⟩ := Option.bind_eq_some_iff.mp h1
    split at h4
    · cases h4; exact ⟨_, rfl⟩
    · cases h4
  refine ⟨B, Hf, ρ, xs, er, h1, fun J Hf1 H1 g1 I1 => ?_⟩
  have gb1 := g1.gb er.bh
  let P : Nat → L2.St → Hp → Prop := fun i σ' H' => ∃ Hg ρ', GB B Hf1 Hg ∧ ER X.K B Hg H' σ' ρ' ∧ forD (uTup n us) g ((enD 0 xs).drop i) ρ' = some o
  refine ⟨fun i m σ' H' => m = xs.length - i ∧ i ≤ xs.length ∧ P i σ' H', ⟨xs.length, by simp, Nat.zero_le _, Hf1, ρ, GB.refl, er.grow g1, by rw [List.drop_zero]; exact h2⟩, ?_⟩
  rintro i m σ2 H2 ⟨rfl, hi, Hg, ρ2, gb, er2, hl⟩
  have s2 : Same Hf1 H2 := gb.f.trans er2.fh
  by_cases hlt : i < xs.length
  · refine .inr ⟨I1.go i H2 s2 hlt, P (i + 1), fun σ' H' p => ⟨xs.length - (i + 1), by omega, rfl, hlt, p⟩, fun x H3 y => ?_⟩
    obtain ⟨g3, T, vs, rfl, hT, dT⟩ := I1.yld i H2 x H3 Hg xs[i] gb.f er2.fh (getE hlt) y
    have hlt' : i < (enD 0 xs).length := by rw [enD_len]; exact hlt
    have hit : (enD 0 xs)[i] = .tuple [.int (i : Nat), xs[i]] := by
      have q := enD_get 0 xs i
      rw [getE hlt', getE hlt, Option.map_some, Nat.zero_add] at q
      exact Option.some.inj q
    rw [List.drop_eq_getElem_cons hlt', hit] at hl
    unfold forD at hl
    obtain ⟨ρ3, h3, h4⟩ := Option.bind_eq_some_iff.mp hl
    obtain ⟨o4, h5, h6⟩ := Option.bind_eq_some_iff.mp h4
    have er3 := er2.grow g3
    refine ⟨B, Hg, ρ2, _, ρ3, T, vs, er3, rfl, hT, dT, h3, fun σ4 er4 => ⟨B, Hg, ρ3, o4, er4, h5, ?_⟩⟩
    cases o4 with
    | nx ρ5 => exact fun σ' Hf' H' g' er' => ⟨Hf', ρ5, gb.trans g', er', h6⟩
    | ct ρ5 => exact fun σ' Hf' H' g' er' => ⟨Hf', ρ5, gb.trans g', er', h6⟩
    | bk ρ5 =>
      cases h6
      exact fun σ' Hf' H' g' er' => k σ' Hf' H' ((gb1.trans gb).trans g') er'
    | rt d =>
      cases h6
      exact fun v Hf' H' g' e1 e2 dp => k v Hf' H' ((gb1.trans gb).trans g') e1 e2 dp
    | ex x ρ5 =>
      cases h6
      exact fun C σ' Hf' H' e g' er' => k C σ' Hf' H' e ((gb1.trans gb).trans g') er'
  · have ei : i = xs.length := by omega
    subst ei
    have z : (enD 0 xs).drop xs.length = [] := by rw [List.drop_eq_nil_iff, enD_len]; exact Nat.le_refl _
    rw [z] at hl
    cases hl
    exact .inl ⟨I1.stop _ H2 s2 (Nat.le_refl _), k σ2 Hg H2 (gb1.trans gb) er2⟩
end
/-! ### ranges as values -/
section
variable {X : Cx} {a b e : Expr} {fa fb : FE} {pos : Pos} {te : L2.St → Hp → (Int → Int → Hp → Prop) → Prop}
def tTupRgF (te : L2.St → Hp → (Int → Int → Hp → Prop) → Prop) : TE := fun σ H Q => te σ H fun a b H1 => RgOk a b ∧ NewT (rgV a b) H1 Q
theorem pe_tupRgF {p : Pos} (hc : X.calm = true) (hg : Gl X "tuple") (hm : X.mg "tuple" = none) (he : PRg X e te) (na : starEach [e] X.env = (false, eval e X.env) :: starEach [] X.env := by rfl) : PE X (.Call (.Name "tuple" p) [e] [] pos) (tTupRgF te) := ⟨fun pins s σ H Q I h => by
  refine Call_ (ld_blt I hg hm boot_tuple (PyProof.Rows.callWith_type1 (args_cons (thn (he pins s σ H _ I h) fun x s1 ⟨r, a, b, t, u, v, H1, ex, hr, I1, ok, q⟩ => args_nil ?_) na) na))
  subst ex
  obtain ⟨b1, b2, b3, b4, b5⟩ := ok
  refine call_tuple_range (n := (b - a).toNat) (I1.ok.hd hc) hr (small_one b1 b2 b3 b4) (rangeSize_nat a b) b5 fun g tk acc hk hi => ?_
  have I2 : Inv X pins σ H1 { s1 with heap := g, toks := tk } := I1.kept hk
  have z := laid_tup (t' := tk) I2 (vals_rg hi) (by rw [rgV_length, sizeLine_eq]; omega) q
  rw [Array.toArray_toList] at z
  exact z⟩
theorem dpa_rng {K : PySem.W.Frag} {H : Hp} (f : Nat → Int) : ∀ l : List Nat, DpAll K H (l.map fun i => V.int (f i)) (l.map fun i => PyData.int (f i))
  | [] => .nil
  | i :: l => .cons (.int _) (dpa_rng f l)
def fRgT (it : Rho → Option (List PyData)) : FE := fun ρ => (it ρ).bind fun xs => if small xs.length then some (.fz (.tuple xs)) else none
def fRgL (it : Rho → Option (List PyData)) : FE := fun ρ => (it ρ).bind fun xs => if small xs.length then some (.nw xs) else none
theorem rgok0 {j : Int} (h1 : -(2 ^ 62) ≤ j) (h2 : j < 2 ^ 62) (h3 : small (rgD 0 j.toNat).length) : RgOk 0 j := by
  rw [rgD_len] at h3
  exact ⟨by omega, by omega, h1, h2, by have : (j - 0).toNat = j.toNat := by rw [Int.sub_zero]
                                        rw [this]; omega⟩
theorem d_tupRg1 {p p2 pos2 : Pos} (hmt : X.mg "tuple" = none) (hmr : X.mg "range" = none) (ha : DE X a fa) (hc : X.calm = true := by rfl) (hgt : Gl X "tuple" := by rfl) (hgr : Gl X "range" := by rfl)
    (n1 : starEach [a] X.env = (false, eval a X.env) :: starEach [] X.env := by rfl) (n2 : starEach [.Call (.Name "range" p2) [a] [] pos2] X.env = (false, eval (.Call (.Name "range" p2) [a] [] pos2) X.env) :: starEach [] X.env := by rfl) :
    DE X (.Call (.Name "tuple" p) [.Call (.Name "range" p2) [a] [] pos2] [] pos) (fRgT (rg1 (aCons fa aNil))) := pe_mono (pe_tupRgF hc hgt hmt (prg_1 hgr hmr ha n1) n2) fun σ H Q h => by
  obtain ⟨B, Hf, ρ, r, er, hf, k⟩ := h
  unfold fRgT at hf
  obtain ⟨xs, h1, h2⟩ := Option.bind_eq_some_iff.mp hf
  unfold rg1 at h1
  obtain ⟨rs, h3, h4⟩ := Option.bind_eq_some_iff.mp h1
  unfold aCons at h3
  obtain ⟨ra, h5, h6⟩ := Option.bind_eq_some_iff.mp h3
  cases h6
  split at h4
  · rename_i j hj
    have hr : ra.rd = .int j := by injection hj
    split at h4
    · rename_i z
      cases h4
      split at h2
      · rename_i sm
        cases h2
        refine ⟨B, Hf, ρ, ra, er, h5, fun v Hf' H' g q => ⟨j, q.int hr, rgok0 z.1 z.2 sm, fun n ob hn hd => ?_⟩⟩
        have gn := Gr.new (o := .frz ob (.tup (rgV 0 j))) g.fh hn (.tupF hd)
        refine k _ _ _ (g.trans gn) (Dp.tup (sqt_frz upd_same) ?_)
        have e : (j - 0).toNat = j.toNat := by rw [Int.sub_zero]
        unfold rgV rgD
        rw [e]
        exact dpa_rng _ _
      · cases h2
    · cases h4
  · cases h4
theorem d_listRg1 {p p2 pos2 : Pos} (hmt : X.mg "list" = none) (hmr : X.mg "range" = none) (ha : DE X a fa) (hc : X.calm = true := by rfl) (hgt : Gl X "list" := by rfl) (hgr : Gl X "range" := by rfl)
    (n1 : starEach [a] X.env = (false, eval a X.env) :: starEach [] X.env := by rfl) (n2 : starEach [.Call (.Name "range" p2) [a] [] pos2] X.env = (false, eval (.Call (.Name "range" p2) [a] [] pos2) X.env) :: starEach [] X.env := by rfl) :
    DE X (.Call (.Name "list" p) [.Call (.Name "range" p2) [a] [] pos2] [] pos) (fRgL (rg1 (aCons fa aNil))) := pe_mono (pe_listRg hc hgt hmt (prg_1 hgr hmr ha n1) n2) fun σ H Q h => by
  obtain ⟨B, Hf, ρ, r, er, hf, k⟩ := h
  unfold fRgL at hf
  obtain ⟨xs, h1, h2⟩ := Option.bind_eq_some_iff.mp hf
  unfold rg1 at h1
  obtain ⟨rs, h3, h4⟩ := Option.bind_eq_some_iff.mp h1
  unfold aCons at h3
  obtain ⟨ra, h5, h6⟩ := Option.bind_eq_some_iff.mp h3
  cases h6
  split at h4
  · rename_i j hj
    have hr : ra.rd = .int j := by injection hj
    split at h4
    · rename_i z
      cases h4
      split at h2
      · rename_i sm
        cases h2
        refine ⟨B, Hf, ρ, ra, er, h5, fun v Hf' H' g q => ⟨j, q.int hr, rgok0 z.1 z.2 sm, fun n hn => ?_⟩⟩
        refine k _ _ _ (g.trans (Gr.newU g.fh hn)) ⟨n, _, rfl, ?_, g.fh.free hn, upd_same, ?_⟩
        · exact g.h.free hn
        · have e : (j - 0).toNat = j.toNat := by rw [Int.sub_zero]
          unfold rgV rgD
          rw [e]
          exact dpa_rng _ _
      · cases h2
    · cases h4
  · cases h4
end
end DL
/-! defs that return a new list, and calls of them: the list is the caller's own -/
namespace DL
open PySem PySem.Spec PyProof.Rows L2
def nwOf : Res → Option (List PyData)
  | .nw xs => some xs
  | .br xs => some xs
  | .fz _ => none
/-- statements, then the return of a list that does not stand still -/
def tDSN (K : PySem.W.Frag) (g : FS) (f : FE) : TS := fun D σ H => ∃ B Hf ρ ρ' r xs, ER K B Hf H σ ρ ∧ g ρ = some (.nx ρ') ∧ f ρ' = some r ∧ nwOf r = some xs ∧
  ∀ p vs Hf' H', GB B Hf Hf' → Same Hf' H' → Same B H' → B p = none → Hf' p = none → H' p = some (.lst vs) → DpAll K Hf' vs xs → D.rt (.ref p) H'
abbrev DSN (X : Cx) (st : List Stmt) (g : FS) (f : FE) : Prop := PSs X st (tDSN X.K g f)
section
variable {X : Cx} {a b c e tg iter : Expr} {es : List Expr} {st : Stmt} {rest : List Stmt} {fa fb fc : FE} {fs : FA} {pos : Pos} {g g1 g2 : FS} {t : Rho → Option Bool}
theorem sn_cons (h1 : DS X st g1) (h2 : DSN X rest g2 fa) : DSN X (st :: rest) (gSeq g1 g2) fa := pss_mono (pss_cons h1 h2) fun D σ H h => by
  obtain ⟨B, Hf, ρ, ρ', r, xs, er, hg, hf, hr, k⟩ := h
  unfold gSeq at hg
  obtain ⟨o1, e1, e2⟩ := Option.bind_eq_some_iff.mp hg
  refine ⟨B, Hf, ρ, o1, er, e1, ?_⟩
  cases o1 with
  | nx ρ1 => exact fun σ' Hf' H' g' er' => ⟨B, Hf', ρ1, ρ', r, xs, er', e2, hf, hr, fun p vs Hf2 H2 gb => k p vs Hf2 H2 (g'.trans gb)⟩
  | rt d => cases e2
  | bk ρ1 => cases e2
  | ct ρ1 => cases e2
  | ex x ρ1 => cases e2
theorem sn_ret (ha : DE X e fa) : DSN X [.Return (some e) pos] gNil fa := pss_mono (pss_one (ps_ret ha)) fun D σ H h => by
  obtain ⟨B, Hf, ρ, ρ', r, xs, er, hg, hf, hr, k⟩ := h
  cases hg
  refine ⟨B, Hf, ρ, r, er, hf, fun v Hf' H' g' q => ?_⟩
  have bh := er.bh.trans g'.h
  cases r with
  | fz y => cases hr
  | nw ys =>
    cases hr
    obtain ⟨p, vs, rfl, h3, h4, h5, h6⟩ := q
    have hb : B p = none := by
      cases z : B p with
      | none => rfl
      | some o => rw [er.bh _ _ z] at h3; cases h3
    exact k p vs Hf' H' (g'.gb er.bh) g'.fh bh hb h4 h5 h6
  | br ys =>
    cases hr
    obtain ⟨p, vs, rfl, h3, h4, h5, h6⟩ := q
    exact k p vs Hf' H' (g'.gb er.bh) g'.fh bh h4 h3 h5 h6
end
def spN (K : PySem.W.Frag) (n : Nat) (F : FD) : Sp := fun vs H Q _ => ∃ Hf ds xs, (Same Hf H ∧ Bn Hf) ∧ DpAll K Hf vs ds ∧ ds.length = n ∧ F ds = some (.list xs) ∧
  ∀ p ws Hf' H', Gr Hf H Hf' H' → H p = none → Hf' p = none → H' p = some (.lst ws) → DpAll K Hf' ws xs → Q (.ref p) H'
def runN (n : Nat) (g : FS) (f : FE) : FD := fun ds => (g (startR n ds)).bind fun o => match o with
  | .nx ρ => (f ρ).bind fun r => (nwOf r).map PyData.list
  | _ => none
section
variable {P : Program} {w : World} {K : PySem.W.Frag} {mg : Str → Option Value} {base : Heap}
theorem def_okN {x qual : Str} {st : Stmt} {f : Addr} {fd : FuncData} {N ps : List Str} {k : Nat} {g : FS} {fe : FE} (F : Fun K x qual st f fd) (S : FnScope N ps (defScope st))
    (hbody : ∀ (cdv : Value) (A : Around) (outer : List Env) (s : Shared) (H : Hp) (E : XK), Room k (A.deeper (envOfC qual (defScope st) s.heap.objs.size f cdv)) → DSN (cxOf CX0 P w K mg base N qual (defScope st) f cdv A outer s H E).nox (defBody st) g fe) :
    FnOk P w K mg base CX0 (k + 1) f fd ps (spN K ps.length (runN N.length g fe)) := by
  refine F.ok S (fun vs H Q E h => ?_) (fun cdv A outer s H vs Q E hr h => ?_)
  · obtain ⟨Hf, ds, d, e, hd, hl, _⟩ := h
    rw [dpa_len hd, hl]
  · obtain ⟨Hf, ds, xs, e, hd, hl, hF, q⟩ := h
    refine ⟨_, hbody cdv A outer s H E hr, ?_⟩
    unfold runN at hF
    obtain ⟨o, h1, h2⟩ := Option.bind_eq_some_iff.mp hF
    have er : ER K H Hf H (L2.start N vs) (startR N.length ds) := er_start e hd
    cases o with
    | nx ρ' =>
      obtain ⟨r, h3, h4⟩ := Option.bind_eq_some_iff.mp h2
      obtain ⟨ys, h5, h6⟩ := Option.map_eq_some_iff.mp h4
      cases h6
      exact ⟨H, Hf, _, ρ', r, _, er, h1, h3, h5, fun p vs Hf' H' g' e1 e2 b1 b2 b3 b4 => q p vs Hf' H' ⟨g'.f, e2, e1, g'.un, g'.bn⟩ b1 b2 b3 b4⟩
    | rt d' => cases h2
    | bk _ => cases h2
    | ct _ => cases h2
    | ex _ _ => cases h2
end
section
variable {X : Cx} {e : Expr} {es : List Expr} {fs : FA} {pos p : Pos} {k n : Nat} {f : Addr} {fd : FuncData} {ps : List Str} {F : FD} {x : Str}
def lstOf : PyData → Option Res
  | .list xs => some (.nw xs)
  | _ => none
def fCallN (F : FD) (fs : FA) : FE := fun ρ => (fs ρ).bind fun rs => (frs rs).bind fun ds => (F ds).bind lstOf
theorem ent_callN {K : PySem.W.Frag} {E : XK} (hn : ∀ rs, (∃ ρ, fs ρ = some rs) → rs.length = n) : ∀ σ H Q, tD K (fCallN F fs) σ H Q → tCall (spN K n F) [] E (tDA K fs) σ H Q := fun σ H Q h => by
  obtain ⟨B, Hf, ρ, r, er, hf, q⟩ := h
  unfold fCallN at hf
  obtain ⟨rs, h1, h2⟩ := Option.bind_eq_some_iff.mp hf
  obtain ⟨ds, h3, h4⟩ := Option.bind_eq_some_iff.mp h2
  obtain ⟨d, h5, h6⟩ := Option.bind_eq_some_iff.mp h4
  obtain ⟨xs, rfl, rfl⟩ : ∃ xs, d = .list xs ∧ r = .nw xs := by
    unfold lstOf at h6
    split at h6
    · cases h6; exact ⟨_, rfl, rfl⟩
    · cases h6
  refine ⟨B, Hf, ρ, rs, er, h1, fun vs Hf' H' g' qq => ?_⟩
  obtain ⟨Hf2, g2, s2, d2⟩ := RRs.freeze er g' qq h3
  have hl : ds.length = n := by
    rw [← hn rs ⟨ρ, h1⟩]
    clear h5 qq d2 h1 h4 h2 hf
    induction rs generalizing ds with
    | nil => cases h3; rfl
    | cons r rs ih =>
      unfold frs at h3
      obtain ⟨x, e1, e2⟩ := Option.bind_eq_some_iff.mp h3
      obtain ⟨ys, e3, e4⟩ := Option.map_eq_some_iff.mp e2
      subst e4
      rw [List.length_cons, List.length_cons, ih ys e3]
  show spN K n F (vs ++ []) H' Q E
  rw [List.append_nil]
  refine ⟨Hf2, ds, xs, ⟨g2.fh, g2.bn er.bn⟩, d2, hl, h5, fun p ws Hf3 H3 g3 b1 b2 b3 b4 => q _ Hf3 H3 (g2.trans g3) ⟨p, ws, rfl, g2.h.free b1, b2, b3, b4⟩⟩
theorem d_callN (G : FnOk X.prog X.w X.K X.mg X.base CX0 k f fd ps (spN X.K n F)) (hr : Room k X.A) (hm : X.mg x = some (.ref f)) (hk : PySem.W.keepIn X.K (.ref f) = true) (hb : Binds X.K fd ps []) (ha : DA X (e :: es) fs) (hn : ALen fs n)
    (hg : Gl X x := by rfl) (hdb : (x == ("__debug__" : Str)) = false := by decide) (he : starEach (e :: es) X.env = (false, eval e X.env) :: starEach es X.env := by rfl) (hpl : (backTo pos (starEach es X.env)).any (·.1) = false := by rfl) :
    DE X (.Call (.Name x p) (e :: es) [] pos) (fCallN F fs) := pe_mono (pe_call G hr hg hm hk hb .nil pass0 ha hdb he hpl) (ent_callN hn)
end
section
variable {X : Cx} {a b : Expr} {fa fb : FE} {pos : Pos}
/-- [..] * k -/
def fRepL (fa fb : FE) : FE := fun ρ => (fa ρ).bind fun x => (fb ρ).bind fun y => match x, y.rd with
  | .nw xs, .int k => if 0 ≤ k ∧ k ≤ 1000 ∧ xs.length ≤ 1000 then some (.nw (List.replicate k.toNat xs).flatten) else none
  | _, _ => none
theorem d_repL (ha : DE X a fa) (hb : DE X b fb) : DE X (.BinOp a .Mult b pos) (fRepL fa fb) := pe_mono (pe_op op_rep ha hb) fun σ H Q h => by
  obtain ⟨B, Hf, ρ, c, er, hf, k⟩ := h
  unfold fRepL at hf
  obtain ⟨ra, h1, hf⟩ := Option.bind_eq_some_iff.mp hf
  obtain ⟨rb, h2, hf⟩ := Option.bind_eq_some_iff.mp hf
  split at hf
  · rename_i xs n hn hold
    split at hf
    · rename_i z
      cases hf
      refine ⟨B, Hf, ρ, _, er, h1, fun v Hf1 H1 g1 q1 => ⟨B, Hf1, ρ, rb, er.grow g1, h2, fun u Hf2 H2 g2 q2 => ?_⟩⟩
      have q3 := q1.grow g2
      have g12 := g1.trans g2
      obtain ⟨p, vs, rfl, h3, h4, h5, h6⟩ := q3
      have hl := dpa_len h6
      have hz : vs.length * n.toNat ≤ 1000 * 1000 := Nat.mul_le_mul (by omega) (by omega)
      refine ⟨p, n, vs, rfl, q2.int hn, h5, by omega, by omega, Nat.le_trans hz (by rw [sizeLine_eq]; omega), fun m hm => ?_⟩
      exact k _ _ _ (g12.trans (Gr.newU g12.fh hm)) ⟨m, _, rfl, g12.h.free hm, g12.fh.free hm, upd_same, dpa_rep h6 _⟩
    · cases hf
  · cases hf
end
end DL
/-! comprehensions and loops over anything that yields pairs: enumerate, zip; targets that are tuples of names; two fors -/
namespace DL
open PySem PySem.Spec PyProof.Rows L2 RZ

/-- what is yielded: it stands still, or it is a new tuple of what stands still -/
def Yd (K : PySem.W.Frag) (Hg H : Hp) (x : V) (d : PyData) : Prop := Dp K Hg x d ∨ ∃ T vs ds, x = .ref T ∧ d = .tuple ds ∧ SqT K H T vs ∧ DpAll K Hg vs ds
structure ItY (K : PySem.W.Frag) (Hb Hf : Hp) (J : It) (ds : List PyData) : Prop where
  go : ∀ i H, Same Hb H → i < ds.length → J.go i H
  stop : ∀ i H, Same Hb H → ds.length ≤ i → J.stop i H
  yld : ∀ i H x H' Hg d, Same Hb H → Same Hf Hg → Same Hg H → ds[i]? = some d → J.yld i H x H' → ∃ Hg', Gr Hg H Hg' H' ∧ Yd K Hg' H' x d
section
variable {K : PySem.W.Frag} {Hb Hf : Hp} {J : It} {ds : List PyData}
theorem Itd.y (I : Itd K Hb Hf J ds) : ItY K Hb Hf J ds := ⟨I.go, I.stop, fun i H x H' Hg d s1 s2 s3 e y => by
  obtain ⟨Hg', g, h⟩ := I.yld i H x H' Hg d s1 s2 s3 e y
  exact ⟨Hg', g, .inl h⟩⟩
theorem ity_enum {a : Addr} {vs : List V} {ds : List PyData} (h : SqL K Hb a vs) (hd : DpAll K Hf vs ds) : ItY K Hb Hf (Ite K a) (enD 0 ds) where
  go := fun i H s hi => by
    rw [enD_len] at hi
    obtain ⟨v, h1, h2⟩ := dpa_get hd (getE hi)
    exact ⟨vs, v, s.seq h, h1⟩
  stop := fun i H s hi => ⟨vs, s.seq h, by rw [dpa_len hd]; rw [enD_len] at hi; exact hi⟩
  yld := fun i H x H' Hg d s1 s2 s3 e y => by
    obtain ⟨T, y, rfl, hT, rfl, yy⟩ := y
    rw [enD_get] at e
    obtain ⟨d0, e0, rfl⟩ := Option.map_eq_some_iff.mp e
    obtain ⟨v, h1, h2⟩ := dpa_get hd e0
    have ev : v = y := by
      have q := yy vs (s1.seq h)
      rw [h1] at q
      exact Option.some.inj q
    subst ev
    rw [Nat.zero_add]
    exact ⟨Hg, Gr.newU s3 hT, .inr ⟨T, _, _, rfl, rfl, SqT.of upd_same, .cons (.int _) (.cons (dp_mono s2 _ _ h2) .nil)⟩⟩
theorem ity_enumT {a : Addr} {vs : List V} {ds : List PyData} (h : SqT K Hb a vs) (hd : DpAll K Hf vs ds) : ItY K Hb Hf (IteT K a) (enD 0 ds) where
  go := fun i H s hi => by
    rw [enD_len] at hi
    obtain ⟨v, h1, h2⟩ := dpa_get hd (getE hi)
    exact ⟨vs, v, sqt_mono s h, h1⟩
  stop := fun i H s hi => ⟨vs, sqt_mono s h, by rw [dpa_len hd]; rw [enD_len] at hi; exact hi⟩
  yld := fun i H x H' Hg d s1 s2 s3 e y => by
    obtain ⟨T, y, rfl, hT, rfl, yy⟩ := y
    rw [enD_get] at e
    obtain ⟨d0, e0, rfl⟩ := Option.map_eq_some_iff.mp e
    obtain ⟨v, h1, h2⟩ := dpa_get hd e0
    have ev : v = y := by
      have q := yy vs (sqt_mono s1 h)
      rw [h1] at q
      exact Option.some.inj q
    subst ev
    rw [Nat.zero_add]
    exact ⟨Hg, Gr.newU s3 hT, .inr ⟨T, _, _, rfl, rfl, SqT.of upd_same, .cons (.int _) (.cons (dp_mono s2 _ _ h2) .nil)⟩⟩
/-- zip -/
def zpD : List PyData → List PyData → List PyData
  | a :: as, b :: bs => .tuple [a, b] :: zpD as bs
  | _, _ => []
theorem zpD_get : ∀ (as bs : List PyData) (i : Nat), (zpD as bs)[i]? = (as[i]?).bind fun a => (bs[i]?).map fun b => .tuple [a, b]
  | [], _, _ => by simp [zpD]
  | a :: as, [], i => by
    simp only [zpD, List.getElem?_nil, Option.map_none, Option.bind_none]
    cases (a :: as)[i]? <;> rfl
  | a :: as, b :: bs, 0 => by simp [zpD]
  | a :: as, b :: bs, i + 1 => by
    show (zpD as bs)[i]? = _
    rw [zpD_get as bs i]
    simp
theorem zpD_len : ∀ (as bs : List PyData), (zpD as bs).length = min as.length bs.length
  | [], _ => by simp [zpD]
  | a :: as, [] => by simp [zpD]
  | a :: as, b :: bs => by
    show (zpD as bs).length + 1 = _
    rw [zpD_len as bs]
    simp only [List.length_cons]
    omega
theorem ity_zip {a b : Addr} {vs ws : List V} {ds es : List PyData} (h : SqL K Hb a vs) (h' : SqL K Hb b ws) (hd : DpAll K Hf vs ds) (he : DpAll K Hf ws es) : ItY K Hb Hf (Itz K a b) (zpD ds es) where
  go := fun i H s hi => by
    rw [zpD_len] at hi
    obtain ⟨v, h1, h2⟩ := dpa_get hd (getE (Nat.lt_of_lt_of_le hi (Nat.min_le_left _ _)))
    obtain ⟨w, h3, h4⟩ := dpa_get he (getE (Nat.lt_of_lt_of_le hi (Nat.min_le_right _ _)))
    exact ⟨vs, ws, v, w, s.seq h, s.seq h', h1, h3⟩
  stop := fun i H s hi => ⟨vs, ws, s.seq h, s.seq h', by rw [dpa_len hd, dpa_len he]; rw [zpD_len] at hi; omega⟩
  yld := fun i H x H' Hg d s1 s2 s3 e y => by
    obtain ⟨T, y, z, rfl, hT, rfl, yy, zz⟩ := y
    rw [zpD_get] at e
    obtain ⟨d0, e0, e⟩ := Option.bind_eq_some_iff.mp e
    obtain ⟨d1, e1, rfl⟩ := Option.map_eq_some_iff.mp e
    obtain ⟨v, h1, h2⟩ := dpa_get hd e0
    obtain ⟨w, h3, h4⟩ := dpa_get he e1
    have ev : v = y := by
      have q := yy vs (s1.seq h)
      rw [h1] at q
      exact Option.some.inj q
    have ew : w = z := by
      have q := zz ws (s1.seq h')
      rw [h3] at q
      exact Option.some.inj q
    subst ev ew
    exact ⟨Hg, Gr.newU s3 hT, .inr ⟨T, _, _, rfl, rfl, SqT.of upd_same, .cons (dp_mono s2 _ _ h2) (.cons (dp_mono s2 _ _ h4) .nil)⟩⟩
theorem ity_zipT {a b : Addr} {vs ws : List V} {ds es : List PyData} (h : SqT K Hb a vs) (h' : SqT K Hb b ws) (hd : DpAll K Hf vs ds) (he : DpAll K Hf ws es) : ItY K Hb Hf (ItzT K a b) (zpD ds es) where
  go := fun i H s hi => by
    rw [zpD_len] at hi
    obtain ⟨v, h1, h2⟩ := dpa_get hd (getE (Nat.lt_of_lt_of_le hi (Nat.min_le_left _ _)))
    obtain ⟨w, h3, h4⟩ := dpa_get he (getE (Nat.lt_of_lt_of_le hi (Nat.min_le_right _ _)))
    exact ⟨vs, ws, v, w, sqt_mono s h, sqt_mono s h', h1, h3⟩
  stop := fun i H s hi => ⟨vs, ws, sqt_mono s h, sqt_mono s h', by rw [dpa_len hd, dpa_len he]; rw [zpD_len] at hi; omega⟩
  yld := fun i H x H' Hg d s1 s2 s3 e y => by
    obtain ⟨T, y, z, rfl, hT, rfl, yy, zz⟩ := y
    rw [zpD_get] at e
    obtain ⟨d0, e0, e⟩ := Option.bind_eq_some_iff.mp e
    obtain ⟨d1, e1, rfl⟩ := Option.map_eq_some_iff.mp e
    obtain ⟨v, h1, h2⟩ := dpa_get hd e0
    obtain ⟨w, h3, h4⟩ := dpa_get he e1
    have ev : v = y := by
      have q := yy vs (sqt_mono s1 h)
      rw [h1] at q
      exact Option.some.inj q
    have ew : w = z := by
      have q := zz ws (sqt_mono s1 h')
      rw [h3] at q
      exact Option.some.inj q
    subst ev ew
    exact ⟨Hg, Gr.newU s3 hT, .inr ⟨T, _, _, rfl, rfl, SqT.of upd_same, .cons (dp_mono s2 _ _ h2) (.cons (dp_mono s2 _ _ h4) .nil)⟩⟩
end

/-! ### what is walked -/
/-- for: what is walked stands still -/
def tYI (K : PySem.W.Frag) (f : Rho → Option (List PyData)) : TI := fun σ H R => ∃ B Hf ρ ds, ER K B Hf H σ ρ ∧ f ρ = some ds ∧ ∀ J Hf' H', Gr Hf H Hf' H' → ItY K Hf' Hf' J ds → R J H'
def tYJ (K : PySem.W.Frag) (f : Rho → Option (List PyData)) : TI := fun σ H R => ∃ B Hf ρ ds, ER K B Hf H σ ρ ∧ f ρ = some ds ∧ ∀ J Hf' H', Gr Hf H Hf' H' → ItY K H' Hf' J ds → R J H'
abbrev YI (X : Cx) (tg e : Expr) (f : Rho → Option (List PyData)) : Prop := PI X tg e (tYI X.K f)
abbrev YJ (X : Cx) (tg e : Expr) (f : Rho → Option (List PyData)) : Prop := PI X tg e (tYJ X.K f)
section
variable {X : Cx} {tg a b c e : Expr} {es : List Expr} {fa fb fc : FE} {fs : FA} {pos : Pos} {f : Rho → Option (List PyData)}
theorem DI.y (h : DI X tg e f) : YI X tg e f := pi_mono h fun σ H R q => by
  obtain ⟨B, Hf, ρ, ds, er, hf, k⟩ := q
  exact ⟨B, Hf, ρ, ds, er, hf, fun J Hf' H' g I => k J Hf' H' g I.y⟩
theorem DJ.y (h : DJ X tg e f) : YJ X tg e f := pi_mono h fun σ H R q => by
  obtain ⟨B, Hf, ρ, ds, er, hf, k⟩ := q
  exact ⟨B, Hf, ρ, ds, er, hf, fun J Hf' H' g I => k J Hf' H' g I.y⟩
/-- all items made to stand still, as data -/
def enYF (fs : FA) : Rho → Option (List PyData) := fun ρ => (fs ρ).bind fun rs => (frs rs).bind fun ds => match ds with
  | [.list xs] => some (enD 0 xs)
  | [.tuple xs] => some (enD 0 xs)
  | _ => none
def enYR (fs : FA) : Rho → Option (List PyData) := fun ρ => (fs ρ).bind fun rs => match rs.map Res.rd with
  | [.list xs] => some (enD 0 xs)
  | [.tuple xs] => some (enD 0 xs)
  | _ => none
def zpYF (fs : FA) : Rho → Option (List PyData) := fun ρ => (fs ρ).bind fun rs => (frs rs).bind fun ds => match ds with
  | [.list xs, .list ys] => some (zpD xs ys)
  | [.tuple xs, .tuple ys] => some (zpD xs ys)
  | _ => none
def zpYR (fs : FA) : Rho → Option (List PyData) := fun ρ => (fs ρ).bind fun rs => match rs.map Res.rd with
  | [.list xs, .list ys] => some (zpD xs ys)
  | [.tuple xs, .tuple ys] => some (zpD xs ys)
  | _ => none
theorem y_enumI {p tpos : Pos} {elts : List Expr} {kk : Nat} (hm : X.mg "enumerate" = none) (ha : DA X [e] fs) (hg : Gl X "enumerate" := by rfl) (hs : starEach [e] X.env = [(false, eval e X.env)] := by rfl) :
    YI X (.Tuple elts kk tpos) (.Call (.Name "enumerate" p) [e] [] pos) (enYF fs) := pi_mono (PI.or (pi_enum hg hm ha hs) (pi_enumT hg hm ha hs)) fun σ H R q => by
  obtain ⟨B, Hf, ρ, ds, er, hf, k⟩ := q
  unfold enYF at hf
  obtain ⟨rs, h1, h2⟩ := Option.bind_eq_some_iff.mp hf
  obtain ⟨xs, h3, h4⟩ := Option.bind_eq_some_iff.mp h2
  split at h4
  · cases h4
    refine .inl ⟨B, Hf, ρ, _, er, h1, fun vs Hf' H' g q => ?_⟩
    obtain ⟨Hf2, g2, s2, d2⟩ := q.freeze er g h3
    cases d2 with
    | cons d t =>
      cases t
      cases d with
      | lst hs hd => exact ⟨_, _, rfl, g2.fh.seq hs, k _ _ _ g2 (ity_enum hs hd)⟩
  · cases h4
    refine .inr ⟨B, Hf, ρ, _, er, h1, fun vs Hf' H' g q => ?_⟩
    obtain ⟨Hf2, g2, s2, d2⟩ := q.freeze er g h3
    cases d2 with
    | cons d t =>
      cases t
      cases d with
      | tup hs hd => exact ⟨_, _, rfl, sqt_mono g2.fh hs, k _ _ _ g2 (ity_enumT hs hd)⟩
  · cases h4
theorem y_enumJ {p tpos : Pos} {elts : List Expr} {kk : Nat} (hm : X.mg "enumerate" = none) (ha : DA X [e] fs) (hg : Gl X "enumerate" := by rfl) (hs : starEach [e] X.env = [(false, eval e X.env)] := by rfl) :
    YJ X (.Tuple elts kk tpos) (.Call (.Name "enumerate" p) [e] [] pos) (enYR fs) := pi_mono (PI.or (pi_enum hg hm ha hs) (pi_enumT hg hm ha hs)) fun σ H R q => by
  obtain ⟨B, Hf, ρ, ds, er, hf, k⟩ := q
  unfold enYR at hf
  obtain ⟨rs, h1, h4⟩ := Option.bind_eq_some_iff.mp hf
  split at h4
  · rename_i xs h3
    cases h4
    refine .inl ⟨B, Hf, ρ, _, er, h1, fun vs Hf' H' g q => ?_⟩
    obtain ⟨v, r, rfl, rfl, hr, q⟩ := q.one h3
    obtain ⟨l, ws, rfl, s1, d1⟩ := q.lst g.fh hr
    exact ⟨_, _, rfl, s1, k _ _ _ g (ity_enum s1 d1)⟩
  · rename_i xs h3
    cases h4
    refine .inr ⟨B, Hf, ρ, _, er, h1, fun vs Hf' H' g q => ?_⟩
    obtain ⟨v, r, rfl, rfl, hr, q⟩ := q.one h3
    obtain ⟨l, ws, rfl, s1, d1⟩ := q.tup hr
    exact ⟨_, _, rfl, sqt_mono g.fh s1, k _ _ _ g (ity_enumT (sqt_mono g.fh s1) d1)⟩
  · cases h4
theorem y_zipI {p tpos : Pos} {elts : List Expr} {kk : Nat} (hm : X.mg "zip" = none) (ha : DA X [a, b] fs) (hg : Gl X "zip" := by rfl) (hs : starEach [a, b] X.env = (false, eval a X.env) :: starEach [b] X.env := by rfl) (hpl : (backTo pos (starEach [b] X.env)).any (·.1) = false := by rfl) :
    YI X (.Tuple elts kk tpos) (.Call (.Name "zip" p) [a, b] [] pos) (zpYF fs) := pi_mono (pi_zipA hg hm ha hs hpl) fun σ H R q => by
  obtain ⟨B, Hf, ρ, ds, er, hf, k⟩ := q
  unfold zpYF at hf
  obtain ⟨rs, h1, h2⟩ := Option.bind_eq_some_iff.mp hf
  obtain ⟨xs, h3, h4⟩ := Option.bind_eq_some_iff.mp h2
  split at h4
  · cases h4
    refine ⟨B, Hf, ρ, _, er, h1, fun vs Hf' H' g q => ?_⟩
    obtain ⟨Hf2, g2, s2, d2⟩ := q.freeze er g h3
    cases d2 with
    | cons d t =>
      cases t with
      | cons d' t =>
        cases t
        cases d with
        | lst hs hd =>
          cases d' with
          | lst hs' hd' => exact ⟨_, _, _, _, rfl, .inl ⟨g2.fh.seq hs, g2.fh.seq hs', k _ _ _ g2 (ity_zip hs hs' hd hd')⟩⟩
  · cases h4
    refine ⟨B, Hf, ρ, _, er, h1, fun vs Hf' H' g q => ?_⟩
    obtain ⟨Hf2, g2, s2, d2⟩ := q.freeze er g h3
    cases d2 with
    | cons d t =>
      cases t with
      | cons d' t =>
        cases t
        cases d with
        | tup hs hd =>
          cases d' with
          | tup hs' hd' => exact ⟨_, _, _, _, rfl, .inr ⟨sqt_mono g2.fh hs, sqt_mono g2.fh hs', k _ _ _ g2 (ity_zipT hs hs' hd hd')⟩⟩
  · cases h4
theorem y_zipJ {p tpos : Pos} {elts : List Expr} {kk : Nat} (hm : X.mg "zip" = none) (ha : DA X [a, b] fs) (hg : Gl X "zip" := by rfl) (hs : starEach [a, b] X.env = (false, eval a X.env) :: starEach [b] X.env := by rfl) (hpl : (backTo pos (starEach [b] X.env)).any (·.1) = false := by rfl) :
    YJ X (.Tuple elts kk tpos) (.Call (.Name "zip" p) [a, b] [] pos) (zpYR fs) := pi_mono (pi_zipA hg hm ha hs hpl) fun σ H R q => by
  obtain ⟨B, Hf, ρ, ds, er, hf, k⟩ := q
  unfold zpYR at hf
  obtain ⟨rs, h1, h4⟩ := Option.bind_eq_some_iff.mp hf
  split at h4
  · rename_i xs ys h3
    cases h4
    refine ⟨B, Hf, ρ, _, er, h1, fun vs Hf' H' g q => ?_⟩
    obtain ⟨v, r, w, s, rfl, rfl, hr, hr', q, q'⟩ := q.two h3
    obtain ⟨l, ws, rfl, s1, d1⟩ := q.lst g.fh hr
    obtain ⟨l', ws', rfl, s1', d1'⟩ := q'.lst g.fh hr'
    exact ⟨_, _, _, _, rfl, .inl ⟨s1, s1', k _ _ _ g (ity_zip s1 s1' d1 d1')⟩⟩
  · rename_i xs ys h3
    cases h4
    refine ⟨B, Hf, ρ, _, er, h1, fun vs Hf' H' g q => ?_⟩
    obtain ⟨v, r, w, s, rfl, rfl, hr, hr', q, q'⟩ := q.two h3
    obtain ⟨l, ws, rfl, s1, d1⟩ := q.tup hr
    obtain ⟨l', ws', rfl, s1', d1'⟩ := q'.tup hr'
    exact ⟨_, _, _, _, rfl, .inr ⟨sqt_mono g.fh s1, sqt_mono g.fh s1', k _ _ _ g (ity_zipT (sqt_mono g.fh s1) (sqt_mono g.fh s1') d1 d1')⟩⟩
  · cases h4
end

/-! ### clauses of a comprehension -/
theorem wipe_set {σ : L2.St} {o : Option V} {j : Nat} : ∀ {vs : List Nat}, j ∈ vs → L2.wipe (σ.set j o) vs = L2.wipe σ vs
  | v :: vs, h => by
    unfold L2.wipe
    by_cases z : j ∈ vs
    · rw [wipe_set z]
    · have e : v = j := by
        rcases List.mem_cons.mp h with z' | z'
        · exact z'.symm
        · exact absurd z' z
      subst e
      have : ∀ (ws : List Nat), v ∉ ws → L2.wipe (σ.set v o) ws = (L2.wipe σ ws).set v o := fun ws => by
        induction ws with
        | nil => intro _; rfl
        | cons w ws ih =>
          intro hw
          unfold L2.wipe
          rw [ih fun q => hw (List.mem_cons_of_mem _ q), List.set_comm _ _ (fun q => hw (by rw [q]; exact List.mem_cons_self))]
      rw [this vs z, List.set_set]
theorem wipe_in {σ : L2.St} {i : Nat} (hi : i < σ.length) : ∀ {vs : List Nat}, i ∈ vs → (L2.wipe σ vs)[i]? = some none
  | v :: vs, h => by
    unfold L2.wipe
    by_cases z : v = i
    · subst z; exact List.getElem?_set_self (by rw [wipe_length]; exact hi)
    · rw [List.getElem?_set_ne z]
      exact wipe_in hi (by rcases List.mem_cons.mp h with q | q; exact absurd q.symm z; exact q)
theorem wipe_wipe {σ : L2.St} {vs : List Nat} : L2.wipe (L2.wipe σ vs) vs = L2.wipe σ vs := by
  apply List.ext_getElem?
  intro i
  by_cases h : i ∈ vs
  · by_cases hi : i < σ.length
    · rw [wipe_in (by rw [wipe_length]; exact hi) h, wipe_in hi h]
    · rw [List.getElem?_eq_none (by rw [wipe_length, wipe_length]; omega), List.getElem?_eq_none (by rw [wipe_length]; omega)]
  · rw [wipe_out h]
theorem wipeR_own {ρ : Rho} {i : Nat} {zs : List PyData} : ∀ {vs : List Nat}, (wipeR ρ vs)[i]? = some (.own zs) → ρ[i]? = some (.own zs) ∧ i ∉ vs
  | [], h => ⟨h, by simp⟩
  | v :: vs, h => by
    unfold wipeR at h
    by_cases z : v = i
    · subst z
      by_cases hi : v < (wipeR ρ vs).length
      · rw [List.getElem?_set_self hi] at h; cases h
      · rw [List.getElem?_eq_none (by rw [List.length_set]; omega)] at h; cases h
    · rw [List.getElem?_set_ne z] at h
      obtain ⟨h1, h2⟩ := wipeR_own h
      exact ⟨h1, fun q => by rcases List.mem_cons.mp q with q | q; exact z q.symm; exact h2 q⟩
/-- the slots' own lists are those of before -/
def OwnAs (σ : L2.St) (ρ : Rho) (σ' : L2.St) (ρ' : Rho) : Prop := ∀ (i : Nat) (zs : List PyData), ρ'[i]? = some (.own zs) → ρ[i]? = some (.own zs) ∧ σ'[i]? = σ[i]?
theorem ownas_set {σ : L2.St} {ρ : Rho} {j : Nat} {o : Option V} {d : PyData} : OwnAs σ ρ (σ.set j o) (ρ.set j (.d d)) := fun i zs h => by
  by_cases z : j = i
  · subst z
    by_cases hi : j < ρ.length
    · rw [List.getElem?_set_self hi] at h; cases h
    · rw [List.getElem?_eq_none (by rw [List.length_set]; omega)] at h; cases h
  · rw [List.getElem?_set_ne z] at h
    exact ⟨h, List.getElem?_set_ne z⟩
theorem OwnAs.trans {σ σ1 σ2 : L2.St} {ρ ρ1 ρ2 : Rho} (a : OwnAs σ ρ σ1 ρ1) (b : OwnAs σ1 ρ1 σ2 ρ2) : OwnAs σ ρ σ2 ρ2 := fun i zs h => by
  obtain ⟨h1, h2⟩ := b i zs h
  obtain ⟨h3, h4⟩ := a i zs h1
  exact ⟨h3, h2.trans h4⟩
structure ItC (K : PySem.W.Frag) (Hb Hf : Hp) (J : It) (ds : List PyData) (g : TG) (u : FU) (js : List Nat) : Prop where
  go : ∀ i H, Same Hb H → i < ds.length → J.go i H
  stop : ∀ i H, Same Hb H → ds.length ≤ i → J.stop i H
  yld : ∀ i H x H' Hg d, Same Hb H → Same Hf Hg → Same Hg H → ds[i]? = some d → J.yld i H x H' → ∃ Hg', Gr Hg H Hg' H' ∧ ∀ (B : Hp) (σ : L2.St) (ρ ρ' : Rho) (Q : L2.St → Hp → Prop), ER K B Hg' H' σ ρ → u d ρ = some ρ' →
    (∀ σ', ER K B Hg' H' σ' ρ' → (∀ vs : List Nat, (∀ j ∈ js, j ∈ vs) → L2.wipe σ' vs = L2.wipe σ vs) → OwnAs σ ρ σ' ρ' → Q σ' H') → g x σ H' Q
def CLI (K : PySem.W.Frag) (w : TI) (g : TG) (it : Rho → Option (List PyData)) (u : FU) (js : List Nat) : Prop := ∀ σ H R, (∃ B Hf ρ ds, ER K B Hf H σ ρ ∧ it ρ = some ds ∧ ∀ J Hf' H', Gr Hf H Hf' H' → ItC K Hf' Hf' J ds g u js → R J H') → w σ H R
def CLJ (K : PySem.W.Frag) (w : TI) (g : TG) (it : Rho → Option (List PyData)) (u : FU) (js : List Nat) : Prop := ∀ σ H R, (∃ B Hf ρ ds, ER K B Hf H σ ρ ∧ it ρ = some ds ∧ ∀ J Hf' H', Gr Hf H Hf' H' → ItC K H' Hf' J ds g u js → R J H') → w σ H R
section
variable {K : PySem.W.Frag} {Hb Hf : Hp} {J : It} {ds : List PyData} {it : Rho → Option (List PyData)}
theorem itc_name {j : Nat} (I : Itd K Hb Hf J ds) : ItC K Hb Hf J ds (gName j) (uName j) [j] := ⟨I.go, I.stop, fun i H x H' Hg d s1 s2 s3 e y => by
  obtain ⟨Hg', g, h⟩ := I.yld i H x H' Hg d s1 s2 s3 e y
  refine ⟨Hg', g, fun B σ ρ ρ' Q er hu k => ?_⟩
  cases hu
  exact k _ (er.set j h) (fun vs hv => wipe_set (hv j (by simp))) ownas_set⟩
def gNs : List Nat → TGs
  | [] => L2.gNil
  | j :: js => gCons (gName j) (gNs js)
def uNs : List Nat → FUs
  | [] => uNil
  | j :: js => uCons (uName j) (uNs js)
theorem gns_run {B Hg H : Hp} : ∀ {js : List Nat} {vs : List V} {ds : List PyData} {σ : L2.St} {ρ ρ' : Rho} {Q : L2.St → Hp → Prop}, ER K B Hg H σ ρ → DpAll K Hg vs ds → uNs js ds ρ = some ρ' →
    (∀ σ', ER K B Hg H σ' ρ' → (∀ ws : List Nat, (∀ j ∈ js, j ∈ ws) → L2.wipe σ' ws = L2.wipe σ ws) → OwnAs σ ρ σ' ρ' → Q σ' H) → gNs js vs σ H Q
  | [], vs, ds, σ, ρ, ρ', Q, er, hd, hu, k => by
    unfold uNs uNil at hu
    split at hu
    · cases hu
      cases hd
      exact ⟨rfl, k _ er (fun _ _ => rfl) fun i zs h => ⟨h, rfl⟩⟩
    · cases hu
  | j :: js, vs, ds, σ, ρ, ρ', Q, er, hd, hu, k => by
    unfold uNs uCons at hu
    split at hu
    · cases hd with
      | cons a t =>
        obtain ⟨ρ1, e1, e2⟩ := Option.bind_eq_some_iff.mp hu
        cases e1
        refine ⟨_, _, rfl, ?_⟩
        show gNs js _ (σ.set j (some _)) H Q
        exact gns_run (er.set j a) t e2 fun σ' er' hw ho => k σ' er' (fun ws hj => by rw [hw ws fun i hi => hj i (List.mem_cons_of_mem _ hi), wipe_set (hj j List.mem_cons_self)]) (ownas_set.trans ho)
    · cases hu
def uTp (n : Nat) (us : FUs) : FU := fun d ρ => match d with
  | .tuple ds => if ds.length = n then us ds ρ else none
  | _ => none
theorem itc_tup {js : List Nat} {n : Nat} (I : ItY K Hb Hf J ds) : ItC K Hb Hf J ds (gTup K n (gNs js)) (uTp n (uNs js)) js := ⟨I.go, I.stop, fun i H x H' Hg d s1 s2 s3 e y => by
  obtain ⟨Hg', g, h⟩ := I.yld i H x H' Hg d s1 s2 s3 e y
  refine ⟨Hg', g, fun B σ ρ ρ' Q er hu k => ?_⟩
  unfold uTp at hu
  split at hu
  · split at hu
    · rename_i ds0 hl
      rcases h with h | ⟨T, vs, ds1, rfl, e1, hs, hd⟩
      · cases h with
        | tup hs hd => exact ⟨_, _, rfl, sqt_mono g.fh hs, by rw [dpa_len hd]; exact hl, gns_run er hd hu k⟩
      · injection e1 with e1
        subst e1
        exact ⟨_, _, rfl, hs, by rw [dpa_len hd]; exact hl, gns_run er hd hu k⟩
    · cases hu
  · cases hu⟩
theorem cli_name {f : Rho → Option (List PyData)} {j : Nat} : CLI K (tDI K f) (gName j) f (uName j) [j] := fun σ H R q => by
  obtain ⟨B, Hf, ρ, ds, er, hf, k⟩ := q
  exact ⟨B, Hf, ρ, ds, er, hf, fun J Hf' H' g I => k J Hf' H' g (itc_name I)⟩
theorem clj_name {f : Rho → Option (List PyData)} {j : Nat} : CLJ K (tDJ K f) (gName j) f (uName j) [j] := fun σ H R q => by
  obtain ⟨B, Hf, ρ, ds, er, hf, k⟩ := q
  exact ⟨B, Hf, ρ, ds, er, hf, fun J Hf' H' g I => k J Hf' H' g (itc_name I)⟩
theorem cli_tup {f : Rho → Option (List PyData)} {js : List Nat} {n : Nat} : CLI K (tYI K f) (gTup K n (gNs js)) f (uTp n (uNs js)) js := fun σ H R q => by
  obtain ⟨B, Hf, ρ, ds, er, hf, k⟩ := q
  exact ⟨B, Hf, ρ, ds, er, hf, fun J Hf' H' g I => k J Hf' H' g (itc_tup I)⟩
theorem clj_tup {f : Rho → Option (List PyData)} {js : List Nat} {n : Nat} : CLJ K (tYJ K f) (gTup K n (gNs js)) f (uTp n (uNs js)) js := fun σ H R q => by
  obtain ⟨B, Hf, ρ, ds, er, hf, k⟩ := q
  exact ⟨B, Hf, ρ, ds, er, hf, fun J Hf' H' g I => k J Hf' H' g (itc_tup I)⟩
end

/-! ### comprehensions -/
/-- one for: the items that are made, put behind acc -/
def lcG (u : FU) (c : Rho → Option Bool) (e : FE) (ρ : Rho) : List PyData → Option (List PyData)
  | [] => some []
  | x :: xs => (u x ρ).bind fun ρ1 => (c ρ1).bind fun b => if b = true then (e ρ1).bind fun r => r.fr.bind fun d => (lcG u c e ρ xs).map fun ds => d :: ds else lcG u c e ρ xs
def lcG2 (u : FU) (c : Rho → Option Bool) (it1 : Rho → Option (List PyData)) (u1 : FU) (c1 : Rho → Option Bool) (e : FE) (vs1 : List Nat) (ρ : Rho) : List PyData → Option (List PyData)
  | [] => some []
  | x :: xs => (u x ρ).bind fun ρ1 => (c ρ1).bind fun b => if b = true then (it1 ρ1).bind fun ys => (lcG u1 c1 e (wipeR ρ1 vs1) ys).bind fun ds1 => (lcG2 u c it1 u1 c1 e vs1 ρ xs).map fun ds => ds1 ++ ds else lcG2 u c it1 u1 c1 e vs1 ρ xs
def fLcG (it : Rho → Option (List PyData)) (u : FU) (c : Rho → Option Bool) (e : FE) (vs : List Nat) : FE := fun ρ => (it ρ).bind fun xs => (lcG u c e (wipeR ρ vs) xs).bind fun ds => if small ds.length then some (.nw ds) else none
def fLc2 (it : Rho → Option (List PyData)) (u : FU) (c : Rho → Option Bool) (it1 : Rho → Option (List PyData)) (u1 : FU) (c1 : Rho → Option Bool) (e : FE) (vs vs1 : List Nat) : FE := fun ρ => (it ρ).bind fun xs => (lcG2 u c it1 u1 c1 e vs1 (wipeR ρ vs) xs).bind fun ds => if small ds.length then some (.nw ds) else none
/-- the comprehension's own list grows, all else stands -/
structure Gw (Hf1 H1 Hg H2 : Hp) (K : PySem.W.Frag) (D : Addr) (acc : List PyData) : Prop where
  f : Same Hf1 Hg
  h : Same H1 H2
  fh : Same Hg H2
  un : ∀ a o, H1 a = some o → Hf1 a = none → Hg a = none
  bn : Bn Hf1 → Bn Hg
  gD : Hg D = none
  D : ∃ vs, H2 D = some (.lst vs) ∧ DpAll K Hg vs acc
theorem Gw.grow {Hf1 H1 Hg H2 Hg' H2' : Hp} {K : PySem.W.Frag} {D : Addr} {acc : List PyData} (w : Gw Hf1 H1 Hg H2 K D acc) (g : Gr Hg H2 Hg' H2') : Gw Hf1 H1 Hg' H2' K D acc := by
  obtain ⟨vs, d1, d2⟩ := w.D
  exact ⟨w.f.trans g.f, w.h.trans g.h, g.fh, fun a o q n => g.un a o (w.h _ _ q) (w.un a o q n), fun b => g.bn (w.bn b), g.un D _ d1 w.gD, vs, g.h _ _ d1, dpa_mono g.f _ _ d2⟩
theorem Gw.gr {Hf1 H1 Hg H2 : Hp} {K : PySem.W.Frag} {D : Addr} {acc : List PyData} (w : Gw Hf1 H1 Hg H2 K D acc) : Gr Hf1 H1 Hg H2 := ⟨w.f, w.h, w.fh, w.un, w.bn⟩
theorem Gw.put {Hf1 H1 Hg H2 : Hp} {K : PySem.W.Frag} {D : Addr} {acc : List PyData} {y : V} {d : PyData} (w : Gw Hf1 H1 Hg H2 K D acc) (hD : H1 D = none) (hd : Dp K Hg y d) : ∃ vs, H2 D = some (.lst vs) ∧ vs.length = acc.length ∧ Gw Hf1 H1 Hg (upd H2 D (.lst (vs ++ [y]))) K D (acc ++ [d]) := by
  obtain ⟨vs, d1, d2⟩ := w.D
  refine ⟨vs, d1, dpa_len d2, ⟨w.f, fun a o q => ?_, fun a o q => ?_, w.un, w.bn, w.gD, _, upd_same, dpa_app d2 (.cons hd .nil)⟩⟩
  · rw [upd_ne fun z => by rw [z, hD] at q; cases q]
    exact w.h _ _ q
  · rw [upd_ne fun z => by rw [z, w.gD] at q; cases q]
    exact w.fh _ _ q
section
variable {K : PySem.W.Frag} {it it1 : Rho → Option (List PyData)} {u u1 : FU} {c c1 : Rho → Option Bool} {e : FE} {w w1 : TI} {g g1 : TG} {js js1 vs vs1 : List Nat}
theorem lcG_ent (C : CLJ K w g it u js) (hj : ∀ j ∈ js, j ∈ vs) : ∀ σ H Q, tD K (fLcG it u c e vs) σ H Q → tLc w g (tDT K c) (tD K e) vs σ H Q := fun σ H Q h => by
  obtain ⟨B, Hf, ρ, r, er, hf, k⟩ := h
  unfold fLcG at hf
  obtain ⟨xs, h1, h2⟩ := Option.bind_eq_some_iff.mp hf
  obtain ⟨ds, h3, h4⟩ := Option.bind_eq_some_iff.mp h2
  split at h4
  · rename_i hz
    cases h4
    refine C σ H _ ⟨B, Hf, ρ, xs, er, h1, fun J Hf1 H1 g1 I1 D hD => ?_⟩
    have er1 : ER K B Hf1 H1 (L2.wipe σ vs) (wipeR ρ vs) := (er.grow g1).wipe vs
    let P : Nat → Hp → Prop := fun i H2 => ∃ Hg acc, Gw Hf1 H1 Hg H2 K D acc ∧ ∃ rest, lcG u c e (wipeR ρ vs) (xs.drop i) = some rest ∧ acc ++ rest = ds
    refine ⟨fun i m H2 => m = xs.length - i ∧ i ≤ xs.length ∧ P i H2, ⟨xs.length, by simp, Nat.zero_le _, Hf1, [], ⟨Same.refl _, same_upd hD, g1.fh.trans (same_upd hD), fun a o _ n => n, fun b => b, g1.fh.free hD, [], upd_same, .nil⟩, ds, by rw [List.drop_zero]; exact h3, rfl⟩, ?_⟩
    rintro i m H2 ⟨rfl, hi, Hg, acc, gw, rest, hl, ha⟩
    by_cases hlt : i < xs.length
    · refine .inr ⟨I1.go i H2 gw.h hlt, P (i + 1), fun H' p => ⟨xs.length - (i + 1), by omega, rfl, hlt, p⟩, fun x H3 y => ?_⟩
      obtain ⟨Hg3, g3, kk⟩ := I1.yld i H2 x H3 Hg xs[i] gw.h gw.f gw.fh (getE hlt) y
      have gw3 := gw.grow g3
      rw [List.drop_eq_getElem_cons hlt] at hl
      unfold lcG at hl
      obtain ⟨ρ1, hu, hl⟩ := Option.bind_eq_some_iff.mp hl
      obtain ⟨bb, hb, hl⟩ := Option.bind_eq_some_iff.mp hl
      refine kk B _ _ ρ1 _ (er1.grow gw3.gr) hu fun σ' er' hw ho => ⟨?_, B, Hg3, ρ1, bb, er', hb, fun Hg4 H4 g4 => ?_⟩
      · rw [hw vs hj, wipe_wipe]
      have gw4 := gw3.grow g4
      cases bb with
      | false =>
        have hl' : lcG u c e (wipeR ρ vs) (xs.drop (i + 1)) = some rest := by simpa using hl
        show P (i + 1) H4
        exact ⟨Hg4, acc, gw4, rest, hl', ha⟩
      | true =>
        rw [if_pos rfl] at hl
        obtain ⟨r5, h5, hl⟩ := Option.bind_eq_some_iff.mp hl
        obtain ⟨d5, h6, hl⟩ := Option.bind_eq_some_iff.mp hl
        obtain ⟨ds5, h7, hl⟩ := Option.map_eq_some_iff.mp hl
        refine ⟨B, Hg4, _, r5, er'.grow g4, h5, fun y5 Hg5 H5 g5 q5 => ?_⟩
        obtain ⟨Hg6, g6, s6, d6⟩ := q5.freeze (er'.grow g4) g5 h6
        obtain ⟨ws, D5, lv, gw6⟩ := (gw4.grow g6).put hD d6
        have hla : acc.length < ds.length := by
          rw [← ha, ← hl, List.length_append, List.length_cons]; omega
        exact ⟨ws, D5, by rw [lv]; exact Nat.lt_of_lt_of_le hla (sm_line hz), Hg6, acc ++ [d5], gw6, ds5, h7, by rw [← ha, ← hl, List.append_assoc]; rfl⟩
    · have ei : i = xs.length := by omega
      subst ei
      refine .inl ⟨I1.stop _ H2 gw.h (Nat.le_refl _), ?_⟩
      rw [List.drop_length] at hl
      cases hl
      rw [List.append_nil] at ha
      subst ha
      obtain ⟨ws, d1, d2⟩ := gw.D
      exact k _ _ _ (g1.trans gw.gr) ⟨D, ws, rfl, g1.h.free hD, gw.gD, d1, d2⟩
  · cases h4
theorem lcG2_ent (C : CLJ K w g it u js) (hj : ∀ j ∈ js, j ∈ vs) (C1 : CLI K w1 g1 it1 u1 js1) (hj1 : ∀ j ∈ js1, j ∈ vs1) : ∀ σ H Q, tD K (fLc2 it u c it1 u1 c1 e vs vs1) σ H Q → tLc2 w g (tDT K c) w1 g1 (tDT K c1) (tD K e) vs vs1 σ H Q := fun σ H Q h => by
  obtain ⟨B, Hf, ρ, r, er, hf, k⟩ := h
  unfold fLc2 at hf
  obtain ⟨xs, h1, h2⟩ := Option.bind_eq_some_iff.mp hf
  obtain ⟨ds, h3, h4⟩ := Option.bind_eq_some_iff.mp h2
  split at h4
  · rename_i hz
    cases h4
    refine C σ H _ ⟨B, Hf, ρ, xs, er, h1, fun J Hf1 H1 g1 I1 D hD => ?_⟩
    have er1 : ER K B Hf1 H1 (L2.wipe σ vs) (wipeR ρ vs) := (er.grow g1).wipe vs
    let P : Nat → Hp → Prop := fun i H2 => ∃ Hg acc, Gw Hf1 H1 Hg H2 K D acc ∧ ∃ rest, lcG2 u c it1 u1 c1 e vs1 (wipeR ρ vs) (xs.drop i) = some rest ∧ acc ++ rest = ds
    refine ⟨fun i m H2 => m = xs.length - i ∧ i ≤ xs.length ∧ P i H2, ⟨xs.length, by simp, Nat.zero_le _, Hf1, [], ⟨Same.refl _, same_upd hD, g1.fh.trans (same_upd hD), fun a o _ n => n, fun b => b, g1.fh.free hD, [], upd_same, .nil⟩, ds, by rw [List.drop_zero]; exact h3, rfl⟩, ?_⟩
    rintro i m H2 ⟨rfl, hi, Hg, acc, gw, rest, hl, ha⟩
    by_cases hlt : i < xs.length
    · refine .inr ⟨I1.go i H2 gw.h hlt, P (i + 1), fun H' p => ⟨xs.length - (i + 1), by omega, rfl, hlt, p⟩, fun x H3 y => ?_⟩
      obtain ⟨Hg3, g3, kk⟩ := I1.yld i H2 x H3 Hg xs[i] gw.h gw.f gw.fh (getE hlt) y
      have gw3 := gw.grow g3
      rw [List.drop_eq_getElem_cons hlt] at hl
      unfold lcG2 at hl
      obtain ⟨ρ1, hu, hl⟩ := Option.bind_eq_some_iff.mp hl
      obtain ⟨bb, hb, hl⟩ := Option.bind_eq_some_iff.mp hl
      refine kk B _ _ ρ1 _ (er1.grow gw3.gr) hu fun σ' er' hw ho => ⟨?_, B, Hg3, ρ1, bb, er', hb, fun Hg4 H4 g4 => ?_⟩
      · rw [hw vs hj, wipe_wipe]
      have gw4 := gw3.grow g4
      cases bb with
      | false =>
        have hl' : lcG2 u c it1 u1 c1 e vs1 (wipeR ρ vs) (xs.drop (i + 1)) = some rest := by simpa using hl
        show P (i + 1) H4
        exact ⟨Hg4, acc, gw4, rest, hl', ha⟩
      | true =>
        rw [if_pos rfl] at hl
        obtain ⟨ys, h5, hl⟩ := Option.bind_eq_some_iff.mp hl
        obtain ⟨ds5, h6, hl⟩ := Option.bind_eq_some_iff.mp hl
        obtain ⟨ds6, h7, hl⟩ := Option.map_eq_some_iff.mp hl
        show w1 σ' H4 _
        refine C1 σ' H4 _ ⟨B, Hg4, ρ1, ys, er'.grow g4, h5, fun J1 Hf7 H7 g7 I7 => ?_⟩
        have gw7 := gw4.grow g7
        have er7 : ER K B Hf7 H7 (L2.wipe σ' vs1) (wipeR ρ1 vs1) := ((er'.grow g4).grow g7).wipe vs1
        let P1 : Nat → Hp → Prop := fun j H2 => ∃ Hg acc1, Gw Hf1 H1 Hg H2 K D acc1 ∧ Same Hf7 Hg ∧ (∀ a o, H7 a = some o → a ≠ D → H2 a = some o) ∧ (∀ a o, H7 a = some o → Hf7 a = none → Hg a = none) ∧ ∃ rest1, lcG u1 c1 e (wipeR ρ1 vs1) (ys.drop j) = some rest1 ∧ acc1 ++ rest1 = acc ++ ds5
        refine ⟨fun j m H2 => m = ys.length - j ∧ j ≤ ys.length ∧ P1 j H2, ⟨ys.length, by simp, Nat.zero_le _, Hf7, acc, gw7, Same.refl _, fun a o q _ => q, fun a o _ n => n, ds5, by rw [List.drop_zero]; exact h6, rfl⟩, ?_⟩
        rintro j m H8 ⟨rfl, hjl, Hg8, acc8, gw8, sf8, sh8, un8, rest8, hl8, ha8⟩
        -- the slots at such a heap
        have erAt : ∀ {Hg H : Hp} {acc' : List PyData} {σ0 : L2.St} {ρ0 : Rho}, ER K B Hf7 H7 σ0 ρ0 → Gw Hf1 H1 Hg H K D acc' → Same Hf7 Hg → (∀ a o, H7 a = some o → a ≠ D → H a = some o) → (∀ a o, H7 a = some o → Hf7 a = none → Hg a = none) → (∀ (i : Nat) xs p, ρ0[i]? = some (.own xs) → σ0[i]? = some (some (.ref p)) → p ≠ D) → ER K B Hg H σ0 ρ0 := fun {Hg H acc' σ0 ρ0} E gw sf sh un nD => by
          refine ⟨gw.fh, fun a o q => ?_, E.len, fun i s o e1 e2 => ?_, gw.bn ((er.grow g1).bn), E.dj⟩
          · exact gw.h _ _ ((er.grow g1).bh _ _ q)
          · have q := E.sl i s o e1 e2
            cases s with
            | und => trivial
            | pin v => exact q
            | d x => obtain ⟨v, e3, hd⟩ := q; exact ⟨v, e3, dp_mono sf _ _ hd⟩
            | own zs =>
              obtain ⟨p, us, e3, n1, n2, n3, n4⟩ := q
              subst e3
              exact ⟨p, us, rfl, un p _ n3 n1, n2, sh p _ n3 (nD i zs p e1 e2), dpa_mono sf _ _ n4⟩
        have nD7 : ∀ (i : Nat) xs p, (wipeR ρ1 vs1)[i]? = some (.own xs) → (L2.wipe σ' vs1)[i]? = some (some (.ref p)) → p ≠ D := fun i zs p e1 e2 => by
          obtain ⟨e3, n3⟩ := wipeR_own e1
          obtain ⟨e4, e5⟩ := ho i zs e3
          rw [wipe_out n3] at e2
          rw [e5] at e2
          obtain ⟨p', us, e6, _, _, q3, _⟩ := er1.sl i _ _ e4 e2
          cases e6
          exact ne_of_none q3 hD
        have er8 := erAt er7 gw8 sf8 sh8 un8 nD7
        by_cases hlt8 : j < ys.length
        · refine .inr ⟨I7.go j H8 (sf8.trans gw8.fh) hlt8, P1 (j + 1), fun H' p => ⟨ys.length - (j + 1), by omega, rfl, hlt8, p⟩, fun x8 H9 y8 => ?_⟩
          obtain ⟨Hg9, g9, kk9⟩ := I7.yld j H8 x8 H9 Hg8 ys[j] (sf8.trans gw8.fh) sf8 gw8.fh (getE hlt8) y8
          have gw9 := gw8.grow g9
          rw [List.drop_eq_getElem_cons hlt8] at hl8
          unfold lcG at hl8
          obtain ⟨ρ9, hu9, hl9⟩ := Option.bind_eq_some_iff.mp hl8
          obtain ⟨b9, hb9, hl9⟩ := Option.bind_eq_some_iff.mp hl9
          refine kk9 B _ _ ρ9 _ (er8.grow g9) hu9 fun σ9 er9 hw9 ho9 => ⟨?_, B, Hg9, ρ9, b9, er9, hb9, fun Hg10 H10 g10 => ?_⟩
          · rw [hw9 vs1 hj1, wipe_wipe]
          have gw10 := gw9.grow g10
          have sf10 := (sf8.trans g9.f).trans g10.f
          have nD10 : ∀ {a o}, H7 a = some o → a ≠ D → H10 a = some o := fun q n => g10.h _ _ (g9.h _ _ (sh8 _ _ q n))
          have un10 : ∀ a o, H7 a = some o → Hf7 a = none → Hg10 a = none := fun a o q n => by
            by_cases z : a = D
            · rw [z]; exact gw10.gD
            · exact g10.un a o (g9.h _ _ (sh8 _ _ q z)) (g9.un a o (sh8 _ _ q z) (un8 a o q n))
          cases b9 with
          | false =>
            have hl' : lcG u1 c1 e (wipeR ρ1 vs1) (ys.drop (j + 1)) = some rest8 := by simpa using hl9
            show P1 (j + 1) H10
            exact ⟨Hg10, acc8, gw10, sf10, fun a o q n => nD10 q n, un10, rest8, hl', ha8⟩
          | true =>
            rw [if_pos rfl] at hl9
            obtain ⟨r10, h10, hl9⟩ := Option.bind_eq_some_iff.mp hl9
            obtain ⟨d10, h11, hl9⟩ := Option.bind_eq_some_iff.mp hl9
            obtain ⟨ds10, h12, hl9⟩ := Option.map_eq_some_iff.mp hl9
            refine ⟨B, Hg10, _, r10, er9.grow g10, h10, fun y5 Hg5 H5 g5 q5 => ?_⟩
            obtain ⟨Hg6, g6, s6, d6⟩ := q5.freeze (er9.grow g10) g5 h11
            obtain ⟨ws, D5, lv, gw6⟩ := (gw10.grow g6).put hD d6
            have hla : acc8.length < ds.length := by
              rw [← ha, ← hl, ← List.append_assoc, ← ha8, ← hl9]
              simp only [List.length_append, List.length_cons]
              omega
            refine ⟨ws, D5, by rw [lv]; exact Nat.lt_of_lt_of_le hla (sm_line hz), Hg6, acc8 ++ [d10], gw6, sf10.trans g6.f, fun a o q n => ?_, fun a o q n => ?_, ds10, h12, by rw [← ha8, ← hl9, List.append_assoc]; rfl⟩
            · rw [upd_ne n]; exact g6.h _ _ (nD10 q n)
            · by_cases z : a = D
              · rw [z]; exact gw6.gD
              · exact g6.un a o (nD10 q z) (un10 a o q n)
        · have ej : j = ys.length := by omega
          subst ej
          refine .inl ⟨I7.stop _ H8 (sf8.trans gw8.fh) (Nat.le_refl _), ?_⟩
          rw [List.drop_length] at hl8
          cases hl8
          rw [List.append_nil] at ha8
          show P (i + 1) H8
          exact ⟨Hg8, acc8, gw8, ds6, h7, by rw [ha8, ← ha, ← hl, List.append_assoc]⟩
    · have ei : i = xs.length := by omega
      subst ei
      refine .inl ⟨I1.stop _ H2 gw.h (Nat.le_refl _), ?_⟩
      rw [List.drop_length] at hl
      cases hl
      rw [List.append_nil] at ha
      subst ha
      obtain ⟨ws, d1, d2⟩ := gw.D
      exact k _ _ _ (g1.trans gw.gr) ⟨D, ws, rfl, g1.h.free hD, gw.gD, d1, d2⟩
  · cases h4
end
end DL
/-! the same, as rules -/
namespace DL
open PySem PySem.Spec PyProof.Rows L2 RZ
section
variable {X : Cx} {a b c e elt tg iter tg1 iter1 : Expr} {fa fb fc : FE} {pos ppos : Pos} {it it1 : Rho → Option (List PyData)} {ct ct1 : Rho → Option Bool} {scope : Scope} {x : Str} {ifs ifs1 : List Expr} {w w1 : TI} {g g1 : TG} {u u1 : FU} {js js1 : List Nat} {gs : FS} {st : Stmt}
theorem s_forC {body : List Stmt} (hi : PI X tg iter w) (hg : PG X tg g) (C : CLI X.K w g it u js) (hb : DSs X body gs) (hp : PassesOwn (model X.prog X.w) X.A X.env X.xe := by exact PassesOwn.never) (hc : X.calm = true := by rfl) (hs : ∀ x, foldedSetIterable iter X.env x = pure x := by intro _; rfl) :
    DS X (.For tg iter body [] pos) (gFor it u gs) := ps_mono (ps_for hp hc hi hg hb hs) fun D σ H h => by
  obtain ⟨B, Hf, ρ, o, er, hg, k⟩ := h
  unfold gFor at hg
  obtain ⟨xs, h1, h2⟩ := Option.bind_eq_some_iff.mp hg
  refine C σ H _ ⟨B, Hf, ρ, xs, er, h1, fun J Hf1 H1 g1 I1 => ?_⟩
  have gb1 := g1.gb er.bh
  let P : Nat → L2.St → Hp → Prop := fun i σ' H' => ∃ Hg ρ', GB B Hf1 Hg ∧ ER X.K B Hg H' σ' ρ' ∧ forD u gs (xs.drop i) ρ' = some o
  refine ⟨fun i m σ' H' => m = xs.length - i ∧ i ≤ xs.length ∧ P i σ' H', ⟨xs.length, by simp, Nat.zero_le _, Hf1, ρ, GB.refl, er.grow g1, by rw [List.drop_zero]; exact h2⟩, ?_⟩
  rintro i m σ2 H2 ⟨rfl, hi, Hg, ρ2, gb, er2, hl⟩
  have s2 : Same Hf1 H2 := gb.f.trans er2.fh
  by_cases hlt : i < xs.length
  · refine .inr ⟨I1.go i H2 s2 hlt, P (i + 1), fun σ' H' p => ⟨xs.length - (i + 1), by omega, rfl, hlt, p⟩, fun x H3 y => ?_⟩
    obtain ⟨Hg3, g3, kk⟩ := I1.yld i H2 x H3 Hg xs[i] s2 gb.f er2.fh (getE hlt) y
    rw [List.drop_eq_getElem_cons hlt] at hl
    unfold forD at hl
    obtain ⟨ρ3, h3, h4⟩ := Option.bind_eq_some_iff.mp hl
    obtain ⟨o4, h5, h6⟩ := Option.bind_eq_some_iff.mp h4
    have er3 := er2.grow g3
    have gb3 : GB B Hf1 Hg3 := gb.trans (g3.gb er2.bh)
    refine kk B σ2 ρ2 ρ3 _ er3 h3 fun σ4 er4 _ _ => ⟨B, Hg3, ρ3, o4, er4, h5, ?_⟩
    cases o4 with
    | nx ρ5 => exact fun σ' Hf' H' g' er' => ⟨Hf', ρ5, gb3.trans g', er', h6⟩
    | ct ρ5 => exact fun σ' Hf' H' g' er' => ⟨Hf', ρ5, gb3.trans g', er', h6⟩
    | bk ρ5 =>
      cases h6
      exact fun σ' Hf' H' g' er' => k σ' Hf' H' ((gb1.trans gb3).trans g') er'
    | rt d =>
      cases h6
      exact fun v Hf' H' g' e1 e2 dp => k v Hf' H' ((gb1.trans gb3).trans g') e1 e2 dp
    | ex x ρ5 =>
      cases h6
      exact fun C σ' Hf' H' e g' er' => k C σ' Hf' H' e ((gb1.trans gb3).trans g') er'
  · have ei : i = xs.length := by omega
    subst ei
    rw [List.drop_length] at hl
    cases hl
    exact .inl ⟨I1.stop _ H2 s2 (Nat.le_refl _), k σ2 Hg H2 (gb1.trans gb) er2⟩
theorem d_lcG {vs : List Nat} (own : List (Str × Nat)) (hN : X.N.Nodup) (hi : PI X tg iter w) (C : CLJ X.K w g it u js) (ok : blkC X.N X.env.scope scope own = true)
    (hg : ∀ (s : Shared) (H : Hp) (C : Addr) (cl : List (Str × Addr)) (fp : List Addr), PG (X.blk s H scope (compEnvC scope cl C X.env) fp) tg g)
    (ht : ∀ (s : Shared) (H : Hp) (C : Addr) (cl : List (Str × Addr)) (fp : List Addr), DTs (X.blk s H scope (compEnvC scope cl C X.env) fp) ifs ct)
    (he : ∀ (s : Shared) (H : Hp) (C : Addr) (cl : List (Str × Addr)) (fp : List Addr), DE (X.blk s H scope (compEnvC scope cl C X.env) fp) elt fa) (hv : own.map (·.2) = vs := by rfl) (hj : ∀ j ∈ js, j ∈ vs := by decide) (hc : X.calm = true := by rfl) (hs : ∀ x, foldedSetIterable iter X.env x = pure x := by intro _; rfl) :
    DE X (.ListComp elt [⟨tg, iter, ifs, 0⟩] scope pos) (fLcG it u ct fa vs) := by
  subst hv
  exact pe_mono (pe_lc (own := own) hc hN hi (blkOk_by ok) hg ht he hs) (lcG_ent C hj)
theorem d_lc2 {vs vs1 : List Nat} (own : List (Str × Nat)) (hN : X.N.Nodup) (hi : PI X tg iter w) (C : CLJ X.K w g it u js) (ok : blkC X.N X.env.scope scope own = true)
    (hg : ∀ (s : Shared) (H : Hp) (C : Addr) (cl : List (Str × Addr)) (fp : List Addr), PG (X.blk s H scope (compEnvC scope cl C X.env) fp) tg g)
    (ht : ∀ (s : Shared) (H : Hp) (C : Addr) (cl : List (Str × Addr)) (fp : List Addr), DTs (X.blk s H scope (compEnvC scope cl C X.env) fp) ifs ct)
    (hi1 : ∀ (s : Shared) (H : Hp) (C : Addr) (cl : List (Str × Addr)) (fp : List Addr), PI (X.blk s H scope (compEnvC scope cl C X.env) fp) tg1 iter1 w1) (C1 : CLI X.K w1 g1 it1 u1 js1)
    (hg1 : ∀ (s : Shared) (H : Hp) (C : Addr) (cl : List (Str × Addr)) (fp : List Addr), PG (X.blk s H scope (compEnvC scope cl C X.env) fp) tg1 g1)
    (ht1 : ∀ (s : Shared) (H : Hp) (C : Addr) (cl : List (Str × Addr)) (fp : List Addr), DTs (X.blk s H scope (compEnvC scope cl C X.env) fp) ifs1 ct1)
    (he : ∀ (s : Shared) (H : Hp) (C : Addr) (cl : List (Str × Addr)) (fp : List Addr), DE (X.blk s H scope (compEnvC scope cl C X.env) fp) elt fa) (hv : own.map (·.2) = vs := by rfl) (hj : ∀ j ∈ js, j ∈ vs := by decide) (hv1 : js1 = vs1 := by rfl) (hj1 : ∀ j ∈ vs1, j ∈ vs := by decide) (hc : X.calm = true := by rfl) (hs : ∀ x, foldedSetIterable iter X.env x = pure x := by intro _; rfl) (hs1 : ∀ env x, foldedSetIterable iter1 env x = pure x := by intro _ _; rfl) :
    DE X (.ListComp elt [⟨tg, iter, ifs, 0⟩, ⟨tg1, iter1, ifs1, 0⟩] scope pos) (fLc2 it u ct it1 u1 ct1 fa vs vs1) := by
  subst hv hv1
  exact pe_mono (pe_lc2 (own := own) (vs1 := js1) hc hN hi (blkOk_by ok) hj1 hg ht hi1 hg1 ht1 he hs hs1) (lcG2_ent C hj C1 fun j h => h)
theorem p_lcG {i : Nat} {y : Str} {py : Pos} {vs : List Nat} (own : List (Str × Nat)) (hN : X.N.Nodup) (hi : PI X tg iter w) (ok : blkC X.N X.env.scope scope own = true)
    (hg : ∀ (s : Shared) (H : Hp) (C : Addr) (cl : List (Str × Addr)) (fp : List Addr), PG (X.blk s H scope (compEnvC scope cl C X.env) fp) tg g)
    (ht : ∀ (s : Shared) (H : Hp) (C : Addr) (cl : List (Str × Addr)) (fp : List Addr), DTs (X.blk s H scope (compEnvC scope cl C X.env) fp) ifs ct)
    (he : ∀ (s : Shared) (H : Hp) (C : Addr) (cl : List (Str × Addr)) (fp : List Addr), DE (X.blk s H scope (compEnvC scope cl C X.env) fp) elt fa)
    (hyi : X.N[i]? = some y) (hyl : X.env.scope.names.lookup y = some .local) (hsw : swapsWith (.ListComp elt [⟨tg, iter, ifs, 0⟩] scope ppos) (some (.Name y py)) pos.line X.env = pure true) (hc : X.calm = true) (hs : ∀ x, foldedSetIterable iter X.env x = pure x) :
    PS X (.Assign [.Name y py] (.ListComp elt [⟨tg, iter, ifs, 0⟩] scope ppos) pos) (tAsg (tLc w g (tDT X.K ct) (tD X.K fa) (own.map (·.2))) (gName i)) :=
  ps_setLc (own := own) hc hN hyi hyl hsw hi (blkOk_by ok) hg ht he hs
theorem s_setLcG {y : Str} {py : Pos} {vs : List Nat} (i : Nat) (own : List (Str × Nat)) (hN : X.N.Nodup) (hi : PI X tg iter w) (C : CLJ X.K w g it u js) (ok : blkC X.N X.env.scope scope own = true)
    (hg : ∀ (s : Shared) (H : Hp) (C : Addr) (cl : List (Str × Addr)) (fp : List Addr), PG (X.blk s H scope (compEnvC scope cl C X.env) fp) tg g)
    (ht : ∀ (s : Shared) (H : Hp) (C : Addr) (cl : List (Str × Addr)) (fp : List Addr), DTs (X.blk s H scope (compEnvC scope cl C X.env) fp) ifs ct)
    (he : ∀ (s : Shared) (H : Hp) (C : Addr) (cl : List (Str × Addr)) (fp : List Addr), DE (X.blk s H scope (compEnvC scope cl C X.env) fp) elt fa) (hv : own.map (·.2) = vs := by rfl) (hj : ∀ j ∈ js, j ∈ vs := by decide)
    (hyi : X.N[i]? = some y := by rfl) (hyl : X.env.scope.names.lookup y = some .local := by rfl) (hsw : swapsWith (.ListComp elt [⟨tg, iter, ifs, 0⟩] scope ppos) (some (.Name y py)) pos.line X.env = pure true := by exact sw_true rfl rfl rfl (by decide +kernel)) (hc : X.calm = true := by rfl) (hs : ∀ x, foldedSetIterable iter X.env x = pure x := by intro _; rfl) :
    DS X (.Assign [.Name y py] (.ListComp elt [⟨tg, iter, ifs, 0⟩] scope ppos) pos) (gSet i (fLcG it u ct fa vs)) := by
  subst hv
  exact ps_mono (p_lcG (vs := own.map (·.2)) own hN hi ok hg ht he hyi hyl hsw hc hs) (ent_set (lcG_ent C hj))
theorem s_setLcGO {y : Str} {py : Pos} {vs : List Nat} (i : Nat) (own : List (Str × Nat)) (hN : X.N.Nodup) (hi : PI X tg iter w) (C : CLJ X.K w g it u js) (ok : blkC X.N X.env.scope scope own = true)
    (hg : ∀ (s : Shared) (H : Hp) (C : Addr) (cl : List (Str × Addr)) (fp : List Addr), PG (X.blk s H scope (compEnvC scope cl C X.env) fp) tg g)
    (ht : ∀ (s : Shared) (H : Hp) (C : Addr) (cl : List (Str × Addr)) (fp : List Addr), DTs (X.blk s H scope (compEnvC scope cl C X.env) fp) ifs ct)
    (he : ∀ (s : Shared) (H : Hp) (C : Addr) (cl : List (Str × Addr)) (fp : List Addr), DE (X.blk s H scope (compEnvC scope cl C X.env) fp) elt fa) (hv : own.map (·.2) = vs := by rfl) (hj : ∀ j ∈ js, j ∈ vs := by decide)
    (hyi : X.N[i]? = some y := by rfl) (hyl : X.env.scope.names.lookup y = some .local := by rfl) (hsw : swapsWith (.ListComp elt [⟨tg, iter, ifs, 0⟩] scope ppos) (some (.Name y py)) pos.line X.env = pure true := by exact sw_true rfl rfl rfl (by decide +kernel)) (hc : X.calm = true := by rfl) (hs : ∀ x, foldedSetIterable iter X.env x = pure x := by intro _; rfl) :
    DS X (.Assign [.Name y py] (.ListComp elt [⟨tg, iter, ifs, 0⟩] scope ppos) pos) (gSetO i (fLcG it u ct fa vs)) := by
  subst hv
  exact ps_mono (p_lcG (vs := own.map (·.2)) own hN hi ok hg ht he hyi hyl hsw hc hs) (ent_setO (lcG_ent C hj))
theorem p_lc2 {i : Nat} {y : Str} {py : Pos} (own : List (Str × Nat)) (hN : X.N.Nodup) (hi : PI X tg iter w) (ok : blkC X.N X.env.scope scope own = true) (hj1 : ∀ j ∈ js1, j ∈ own.map (·.2))
    (hg : ∀ (s : Shared) (H : Hp) (C : Addr) (cl : List (Str × Addr)) (fp : List Addr), PG (X.blk s H scope (compEnvC scope cl C X.env) fp) tg g)
    (ht : ∀ (s : Shared) (H : Hp) (C : Addr) (cl : List (Str × Addr)) (fp : List Addr), DTs (X.blk s H scope (compEnvC scope cl C X.env) fp) ifs ct)
    (hi1 : ∀ (s : Shared) (H : Hp) (C : Addr) (cl : List (Str × Addr)) (fp : List Addr), PI (X.blk s H scope (compEnvC scope cl C X.env) fp) tg1 iter1 w1)
    (hg1 : ∀ (s : Shared) (H : Hp) (C : Addr) (cl : List (Str × Addr)) (fp : List Addr), PG (X.blk s H scope (compEnvC scope cl C X.env) fp) tg1 g1)
    (ht1 : ∀ (s : Shared) (H : Hp) (C : Addr) (cl : List (Str × Addr)) (fp : List Addr), DTs (X.blk s H scope (compEnvC scope cl C X.env) fp) ifs1 ct1)
    (he : ∀ (s : Shared) (H : Hp) (C : Addr) (cl : List (Str × Addr)) (fp : List Addr), DE (X.blk s H scope (compEnvC scope cl C X.env) fp) elt fa)
    (hyi : X.N[i]? = some y) (hyl : X.env.scope.names.lookup y = some .local) (hsw : swapsWith (.ListComp elt [⟨tg, iter, ifs, 0⟩, ⟨tg1, iter1, ifs1, 0⟩] scope ppos) (some (.Name y py)) pos.line X.env = pure true) (hc : X.calm = true) (hs : ∀ x, foldedSetIterable iter X.env x = pure x) (hs1 : ∀ env x, foldedSetIterable iter1 env x = pure x) :
    PS X (.Assign [.Name y py] (.ListComp elt [⟨tg, iter, ifs, 0⟩, ⟨tg1, iter1, ifs1, 0⟩] scope ppos) pos) (tAsg (tLc2 w g (tDT X.K ct) w1 g1 (tDT X.K ct1) (tD X.K fa) (own.map (·.2)) js1) (gName i)) :=
  ps_setLc2 (own := own) (vs1 := js1) hc hN hyi hyl hsw hi (blkOk_by ok) hj1 hg ht hi1 hg1 ht1 he hs hs1
theorem s_setLc2 {y : Str} {py : Pos} {vs vs1 : List Nat} (i : Nat) (own : List (Str × Nat)) (hN : X.N.Nodup) (hi : PI X tg iter w) (C : CLJ X.K w g it u js) (ok : blkC X.N X.env.scope scope own = true)
    (hg : ∀ (s : Shared) (H : Hp) (C : Addr) (cl : List (Str × Addr)) (fp : List Addr), PG (X.blk s H scope (compEnvC scope cl C X.env) fp) tg g)
    (ht : ∀ (s : Shared) (H : Hp) (C : Addr) (cl : List (Str × Addr)) (fp : List Addr), DTs (X.blk s H scope (compEnvC scope cl C X.env) fp) ifs ct)
    (hi1 : ∀ (s : Shared) (H : Hp) (C : Addr) (cl : List (Str × Addr)) (fp : List Addr), PI (X.blk s H scope (compEnvC scope cl C X.env) fp) tg1 iter1 w1) (C1 : CLI X.K w1 g1 it1 u1 js1)
    (hg1 : ∀ (s : Shared) (H : Hp) (C : Addr) (cl : List (Str × Addr)) (fp : List Addr), PG (X.blk s H scope (compEnvC scope cl C X.env) fp) tg1 g1)
    (ht1 : ∀ (s : Shared) (H : Hp) (C : Addr) (cl : List (Str × Addr)) (fp : List Addr), DTs (X.blk s H scope (compEnvC scope cl C X.env) fp) ifs1 ct1)
    (he : ∀ (s : Shared) (H : Hp) (C : Addr) (cl : List (Str × Addr)) (fp : List Addr), DE (X.blk s H scope (compEnvC scope cl C X.env) fp) elt fa) (hv : own.map (·.2) = vs := by rfl) (hj : ∀ j ∈ js, j ∈ vs := by decide) (hv1 : js1 = vs1 := by rfl) (hj1 : ∀ j ∈ vs1, j ∈ vs := by decide)
    (hyi : X.N[i]? = some y := by rfl) (hyl : X.env.scope.names.lookup y = some .local := by rfl) (hsw : swapsWith (.ListComp elt [⟨tg, iter, ifs, 0⟩, ⟨tg1, iter1, ifs1, 0⟩] scope ppos) (some (.Name y py)) pos.line X.env = pure true := by exact sw_true rfl rfl rfl (by decide +kernel)) (hc : X.calm = true := by rfl) (hs : ∀ x, foldedSetIterable iter X.env x = pure x := by intro _; rfl) (hs1 : ∀ env x, foldedSetIterable iter1 env x = pure x := by intro _ _; rfl) :
    DS X (.Assign [.Name y py] (.ListComp elt [⟨tg, iter, ifs, 0⟩, ⟨tg1, iter1, ifs1, 0⟩] scope ppos) pos) (gSet i (fLc2 it u ct it1 u1 ct1 fa vs vs1)) := by
  subst hv hv1
  exact ps_mono (p_lc2 own hN hi ok hj1 hg ht hi1 hg1 ht1 he hyi hyl hsw hc hs hs1) (ent_set (lcG2_ent C hj C1 fun j h => h))
end
end DL
/-! the laws' own words about rows, as their meanings stand -/
namespace DL
open PySem PySem.Spec PyProof.Rows L2
/-- slots 0 strands, 1 word, 2 row, 3 letter, 4 k -/
def G_row : FS := (gSeq (gSetO 2 (fLc (rg1 (aCons (fVar 0) aNil)) 4 cYes (fVar 4) [4]))
    (gSeq (gFor (itF (fVar 1)) (uName 3) (gSeq (gSet 4 (fC1 gAbs (aCons (fVar 3) aNil)))
    (gSwap 2 (f2 gMinus (fVar 4) (fC (.int 1))) (fVar 4) (aCons (f2 gIx (fVar 2) (fVar 4)) (aCons (f2 gIx (fVar 2) (f2 gMinus (fVar 4) (fC (.int 1)))) aNil)))))
    (gRet (fC1 gTuple (aCons (fVar 2) aNil)))))
/-- slots 0 row, 1 k -/
def G_ends : FS := (gRet (fLc (rg2 (aCons (fC (.int 1)) (aCons (fC1 gLen (aCons (fVar 0) aNil)) aNil))) 1 (fB (f2 gGt (f2 gIx (fVar 0) (f2 gMinus (fVar 1) (fC (.int 1)))) (f2 gIx (fVar 0) (fVar 1)))) (fVar 1) [1]))
/-- slots 0 row, 1 k -/
def G_starts : FS := (gRet (fLc (rg2 (aCons (fC (.int 1)) (aCons (fC1 gLen (aCons (fVar 0) aNil)) aNil))) 1 (fB (f2 gLt (fTix (fVar 0) (fVar 1)) (fTix (fVar 0) (f2 gMinus (fVar 1) (fC (.int 1)))))) (fVar 1) [1]))
/-- slots 0 row, 1 letter, 2 item -/
def G_rest : FS := (gRet (fC1 gTuple (aCons (fLc (itR (fVar 0)) 2 cYes (fDg2 (fVar 1) (f2 gMinus (fVar 1) (fC (.int 1))) (f2 gMinus (fVar 1) (fC (.int 1))) (fVar 1) (fVar 2) (fVar 2)) [2]) aNil)))
/-- slots 0 value, 1 strands, 2 rest, 3 row, 4 spare, 5 k -/
def G_drawn_row : FS := (gSeq (gSetO 2 (fLc (rg1 (aCons (fVar 1) aNil)) 5 cYes (fVar 5) [5]))
    (gSeq (gSetO 3 (fLst aNil))
    (gSeq (gFor (rg1 (aCons (fVar 1) aNil)) (uName 4) (gSeq (gAppPop 3 2 (f2 gMod (fVar 0) (fC1 gLen (aCons (fVar 2) aNil))))
    (gSet 0 (f2 gDiv (fVar 0) (f2 gAdd (f2 gMinus (fVar 1) (fC1 gLen (aCons (fVar 3) aNil))) (fC (.int 1)))))))
    (gRet (fC1 gTuple (aCons (fVar 3) aNil))))))
/-- slots 0 row, 1 word, 2 letter -/
def G_row_word (F__law_starts : FD) (F__law_rest : FD) (mu__law_row_word_1 : Rho → Nat) : FS := (gSeq (gSetO 1 (fLst aNil))
    (gSeq (gWh mu__law_row_word_1 (fB (f2 gNe (fCall F__law_starts (aCons (fVar 0) aNil)) (fLst aNil))) (gSeq (gSet 2 (f2 gIx (fCall F__law_starts (aCons (fVar 0) aNil)) (fC (.int 0))))
    (gSeq (gApp 1 (fVar 2))
    (gSet 0 (fCall F__law_rest (aCons (fVar 0) (aCons (fVar 2) aNil)))))))
    (gRet (fC1 gTuple (aCons (fVar 1) aNil)))))
/-- rows: lists of numbers; n strands -/
def swp (r : List Int) (w : Int) : List Int := (r.set (w.natAbs - 1) (r.getD w.natAbs 0)).set w.natAbs (r.getD (w.natAbs - 1) 0)
def plainR (n : Nat) : List Int := (List.range n).map fun i : Nat => (i : Int)
def rowR (n : Nat) (ws : List Int) : List Int := ws.foldl swp (plainR n)
theorem swp_len (r : List Int) (w : Int) : (swp r w).length = r.length := by unfold swp; rw [List.length_set, List.length_set]
theorem rowR_len (n : Nat) (ws : List Int) : (rowR n ws).length = n := by
  unfold rowR
  have key : ∀ (ws : List Int) (r : List Int), (ws.foldl swp r).length = r.length := fun ws => by
    induction ws with
    | nil => intro r; rfl
    | cons w ws ih => intro r; rw [List.foldl_cons, ih, swp_len]
  rw [key]
  unfold plainR
  rw [List.length_map, List.length_range]
theorem ixN_nat {n j : Nat} (h : j < n) : ixN n (j : Int) = some j := by
  unfold ixN
  rw [if_pos (by omega), if_pos (by omega)]
  rfl
theorem r_row {s : Int} {ws : List Int} (hs1 : 2 ≤ s) (hs2 : s ≤ 1000) (hl : ws.length ≤ 1000) (hw : ∀ w ∈ ws, w ≠ 0 ∧ -s < w ∧ w < s) : runD 5 G_row [.int s, wd ws] = some (wd (rowR s.toNat ws)) := by
  simp -implicitDefEqProofs [runD_eq, G_row, Option.bind_assoc, -List.map_map]
  rw [rg1_ok (by omega) (by omega), Option.bind_some, if_pos (by rw [rgD_len]; omega), rgD0, lcD_all (e := fun i : Nat => PyData.int (i : Int)) (e' := PyData.int) (fun i : Nat => (i : Int))]
  · simp -implicitDefEqProofs [-List.map_map, Option.bind_assoc]
    refine forD_all (fun i ρ => ∃ x y, ρ = [Slot.d (.int s), Slot.d (wd ws), Slot.own ((rowR s.toNat (ws.take i)).map PyData.int), x, y]) ⟨.und, .und, rfl⟩ ?_ ?_
    · rintro i x ρ hi ⟨x0, y0, rfl⟩
      obtain ⟨w, hw1, rfl⟩ := map_get hi
      obtain ⟨h0, h1, h2⟩ := hw w (List.mem_of_getElem? hw1)
      have e : rowR s.toNat (ws.take (i + 1)) = swp (rowR s.toNat (ws.take i)) w := by
        unfold rowR
        rw [List.take_succ, hw1, List.foldl_append]
        rfl
      have hlen := rowR_len s.toNat (ws.take i)
      rw [e]
      generalize rowR s.toNat (ws.take i) = r at hlen
      have ea : (if w < 0 then -w else w) = ((w.natAbs : Nat) : Int) := by omega
      have eb : ((w.natAbs : Nat) : Int) - 1 = ((w.natAbs - 1 : Nat) : Int) := by omega
      have l1 : w.natAbs < r.length := by omega
      have l2 : w.natAbs - 1 < r.length := by omega
      have g1 : atI (r.map PyData.int) ((w.natAbs : Nat) : Int) = some (.int (r.getD w.natAbs 0)) := atI_nat (by rw [List.getElem?_map, List.getElem?_eq_getElem l1]; simp [List.getD, List.getElem?_eq_getElem l1])
      have g2 : atI (r.map PyData.int) ((w.natAbs - 1 : Nat) : Int) = some (.int (r.getD (w.natAbs - 1) 0)) := atI_nat (by rw [List.getElem?_map, List.getElem?_eq_getElem l2]; simp [List.getD, List.getElem?_eq_getElem l2])
      refine goes_at (ρ1 := [Slot.d (.int s), Slot.d (wd ws), Slot.own (r.map PyData.int), Slot.d (.int w), y0]) rfl ?_
      refine goes_seq (fun ρ => ρ = [Slot.d (.int s), Slot.d (wd ws), Slot.own (r.map PyData.int), Slot.d (.int w), Slot.d (.int ((w.natAbs : Nat) : Int))]) ⟨_, by simp -implicitDefEqProofs [ea], rfl⟩ ?_
      rintro ρ rfl
      refine goes_one ⟨[Slot.d (.int s), Slot.d (wd ws), Slot.own ((swp r w).map PyData.int), Slot.d (.int w), Slot.d (.int ((w.natAbs : Nat) : Int))], ?_, _, _, rfl⟩
      simp -implicitDefEqProofs [gSwap, eb, g1, g2, ixN_nat l1, ixN_nat l2, swp]
    · rintro ρ ⟨x, y, rfl⟩
      simp -implicitDefEqProofs
  · intro x hx; simp
  · intro x hx; simp
def endsR (r : List Int) : List Int := ((List.range (r.length - 1)).filter fun i => decide (r.getD (i + 1) 0 < r.getD i 0)).map fun i : Nat => (i : Int) + 1
theorem rgD1 (n : Nat) : rgD 1 n = (List.range n).map fun i : Nat => PyData.int ((i : Int) + 1) := by
  unfold rgD
  congr 1
  funext i
  rw [Int.add_comm]
theorem atI_int {r : List Int} {i : Nat} (h : i < r.length) : atI (r.map PyData.int) (i : Int) = some (.int (r.getD i 0)) := atI_nat (by rw [List.getElem?_map, List.getElem?_eq_getElem h]; simp [List.getD, List.getElem?_eq_getElem h])
theorem rg2_len {r : List Int} {ρ : Rho} {f : FA} (hl : r.length ≤ 1000) (h : f ρ = some [.fz (.int 1), .fz (.int (r.length : Int))]) : rg2 f ρ = some (rgD 1 (r.length - 1)) := by
  rw [rg2_eq, h, Option.bind_some]
  show rg2S [.int 1, .int (r.length : Int)] = _
  rw [rg2_ok (by omega) (by omega) (by omega) (by omega)]
  congr 2
  omega
theorem r_ends {r : List Int} (hl : r.length ≤ 1000) : runD 2 G_ends [wd r] = some (.list ((endsR r).map PyData.int)) := by
  have h1 : rg2 (aCons (fC (.int 1)) (aCons (fC1 gLen (aCons (fVar 0) aNil)) aNil)) [Slot.d (wd r), .und] = some (rgD 1 (r.length - 1)) := rg2_len hl (by simp -implicitDefEqProofs)
  simp -implicitDefEqProofs only [runD_eq, G_ends, gRet_eq, fLc_eq, startR_eq, List.map_cons, List.map_nil, List.length_cons, List.length_nil, List.cons_append, List.nil_append, List.replicate]
  rw [h1, Option.bind_some, if_pos (by rw [rgD_len]; omega), rgD1, lcD_gen (e := fun i : Nat => PyData.int ((i : Int) + 1)) (e' := PyData.int) (fun i => decide (r.getD (i + 1) 0 < r.getD i 0)) (fun i : Nat => (i : Int) + 1)]
  · rfl
  · intro x hx
    have hx' := List.mem_range.mp hx
    have g1 := atI_int (r := r) (i := x) (by omega)
    have g2 := atI_int (r := r) (i := x + 1) (by omega)
    have e1 : ((x + 1 : Nat) : Int) = (x : Int) + 1 := by omega
    have e2 : (x : Int) + 1 - 1 = (x : Int) := by omega
    rw [e1] at g2
    simp -implicitDefEqProofs [g1, g2, e2]
  · intro x hx _; simp
/-- the place of a number -/
def posI : List Int → Int → Nat
  | [], _ => 0
  | x :: xs, k => if x = k then 0 else posI xs k + 1
theorem ixD_ints {k : Int} : ∀ {r : List Int}, k ∈ r → ixD (.int k) (r.map PyData.int) = some (posI r k)
  | [], h => by cases h
  | x :: xs, h => by
    rw [List.map_cons]
    unfold ixD posI
    rw [eqv_int]
    by_cases e : x = k
    · rw [if_pos (decide_eq_true e), if_pos e]
    · rw [if_neg (by simp [e]), if_neg e, ixD_ints ((List.mem_cons.mp h).resolve_left (Ne.symm e))]
      rfl
structure Row (n : Nat) (r : List Int) : Prop where
  p : r.Perm (plainR n)
theorem plainR_len (n : Nat) : (plainR n).length = n := by unfold plainR; rw [List.length_map, List.length_range]
theorem mem_plainR {n : Nat} {x : Int} : x ∈ plainR n ↔ 0 ≤ x ∧ x < n := by
  unfold plainR
  rw [List.mem_map]
  constructor
  · rintro ⟨k, hk, rfl⟩
    have := List.mem_range.mp hk
    omega
  · intro h
    exact ⟨x.toNat, List.mem_range.mpr (by omega), by omega⟩
theorem Row.len {n : Nat} {r : List Int} (h : Row n r) : r.length = n := by rw [h.p.length_eq, plainR_len]
theorem Row.mem {n : Nat} {r : List Int} (h : Row n r) {x : Int} : x ∈ r ↔ 0 ≤ x ∧ x < n := by rw [h.p.mem_iff, mem_plainR]
theorem Row.all {n : Nat} {r : List Int} (h : Row n r) (k : Nat) (hk : k < n) : (k : Int) ∈ r := h.mem.mpr (by omega)
theorem plainR_nodup (n : Nat) : (plainR n).Nodup := by
  unfold plainR
  exact List.Pairwise.map _ (fun a b h z => h (by omega)) List.nodup_range
theorem Row.nd {n : Nat} {r : List Int} (h : Row n r) : r.Nodup := h.p.nodup_iff.mpr (plainR_nodup n)
def startsR (r : List Int) : List Int := ((List.range (r.length - 1)).filter fun i : Nat => decide (posI r ((i : Int) + 1) < posI r (i : Int))).map fun i : Nat => (i : Int) + 1
theorem r_starts {n : Nat} {r : List Int} (hr : Row n r) (hn : n ≤ 1000) : runD 2 G_starts [wd r] = some (.list ((startsR r).map PyData.int)) := by
  have hl := hr.len
  have h1 : rg2 (aCons (fC (.int 1)) (aCons (fC1 gLen (aCons (fVar 0) aNil)) aNil)) [Slot.d (wd r), .und] = some (rgD 1 (r.length - 1)) := rg2_len (by omega) (by simp -implicitDefEqProofs)
  simp -implicitDefEqProofs only [runD_eq, G_starts, gRet_eq, fLc_eq, startR_eq, List.map_cons, List.map_nil, List.length_cons, List.length_nil, List.cons_append, List.nil_append, List.replicate]
  rw [h1, Option.bind_some, if_pos (by rw [rgD_len]; omega), rgD1, lcD_gen (e := fun i : Nat => PyData.int ((i : Int) + 1)) (e' := PyData.int) (fun i => decide (posI r ((i : Int) + 1) < posI r (i : Int))) (fun i : Nat => (i : Int) + 1)]
  · rfl
  · intro x hx
    have hx' := List.mem_range.mp hx
    have m1 := hr.all x (by omega)
    have m2 := hr.all (x + 1) (by omega)
    have e1 : ((x + 1 : Nat) : Int) = (x : Int) + 1 := by omega
    have e2 : (x : Int) + 1 - 1 = (x : Int) := by omega
    rw [e1] at m2
    simp -implicitDefEqProofs [ixD_ints m1, ixD_ints m2, e2]
  · intro x hx _; simp
def restR (w : Int) (r : List Int) : List Int := r.map fun x => if x = w - 1 then w else if x = w then w - 1 else x
theorem r_rest {w : Int} {r : List Int} (hl : r.length ≤ 1000) : runD 3 G_rest [wd r, .int w] = some (wd (restR w r)) := by
  have hz : r.length ≤ 100000 := by omega
  simp -implicitDefEqProofs [runD_eq, G_rest, hz, -List.map_map]
  rw [lcD_all (e := PyData.int) (e' := PyData.int) (fun x => if x = w - 1 then w else if x = w then w - 1 else x)]
  · simp -implicitDefEqProofs [-List.map_map, restR]
  · intro x hx; simp
  · intro x hx
    simp -implicitDefEqProofs [fDg2, fzI, fzD]
end DL
namespace DL
open PySem PySem.Spec PyProof.Rows L2
theorem seqIx {m : Int} {n : Nat} (h : 0 ≤ m) (h2 : m < n) : seqIndex? m n = some m.toNat := by
  unfold seqIndex?
  have e1 : ¬ m < 0 := by omega
  simp [e1]
  omega
theorem erase_perm {α : Type} : ∀ {l : List α} {m : Nat} (hm : m < l.length), (l[m] :: l.eraseIdx m).Perm l
  | [], _, hm => absurd hm (Nat.not_lt_zero _)
  | y :: l, 0, _ => .refl _
  | y :: l, m + 1, hm => by
    rw [List.eraseIdx_cons_succ, List.getElem_cons_succ]
    exact (List.Perm.swap _ _ _).trans ((erase_perm (Nat.lt_of_succ_lt_succ hm)).cons y)
theorem erase_map {α β : Type} {f : α → β} : ∀ {l : List α} {m : Nat}, (l.map f).eraseIdx m = (l.eraseIdx m).map f
  | [], _ => by simp
  | x :: l, 0 => by simp
  | x :: l, m + 1 => by rw [List.map_cons, List.eraseIdx_cons_succ, List.eraseIdx_cons_succ, List.map_cons, erase_map]
theorem r_drawn_row {v s : Int} (hs1 : 2 ≤ s) (hs2 : s ≤ 1000) : ∃ r, Row s.toNat r ∧ runD 6 G_drawn_row [.int v, .int s] = some (wd r) := by
  have key : ∃ d, runD 6 G_drawn_row [.int v, .int s] = some d ∧ ∃ r, d = wd r ∧ Row s.toNat r := by
    simp -implicitDefEqProofs [runD_eq, G_drawn_row, Option.bind_assoc, -List.map_map]
    rw [rg1_ok (by omega) (by omega), Option.bind_some, if_pos (by rw [rgD_len]; omega), rgD0, lcD_all (e := fun i : Nat => PyData.int (i : Int)) (e' := PyData.int) (fun i : Nat => (i : Int))]
    · simp -implicitDefEqProofs [-List.map_map, Option.bind_assoc]
      rw [rg1_ok (by omega) (by omega), Option.bind_some]
      refine forD_ex (fun i ρ => ∃ (u : Int) (rest row : List Int) (x y : Slot), ρ = [.d (.int u), .d (.int s), .own (rest.map PyData.int), .own (row.map PyData.int), x, y] ∧ rest.length + i = s.toNat ∧ row.length = i ∧ (rest ++ row).Perm (plainR s.toNat)) ⟨v, plainR s.toNat, [], .und, .und, rfl, by simp [plainR], rfl, by simp⟩ ?_ ?_
      · rintro i x ρ hi ⟨u, rest, row, x0, y0, rfl, h1, h2, h3⟩
        obtain ⟨h5, rfl⟩ := rgD_get hi
        have hlt : 0 < (rest.length : Int) := by omega
        have m1 := Int.emod_nonneg u (show (rest.length : Int) ≠ 0 by omega)
        have m2 := Int.emod_lt_of_pos u hlt
        have hm : (u % (rest.length : Int)).toNat < rest.length := by omega
        have sx := seqIx m1 m2
        have gx : (rest.map PyData.int)[(u % (rest.length : Int)).toNat]? = some (.int rest[(u % (rest.length : Int)).toNat]) := by
          rw [List.getElem?_map, List.getElem?_eq_getElem hm]
          rfl
        have ee : (rest.map PyData.int).eraseIdx (u % (rest.length : Int)).toNat = (rest.eraseIdx (u % (rest.length : Int)).toNat).map PyData.int := erase_map
        have hle := List.length_eraseIdx_of_lt hm
        generalize (u % (rest.length : Int)).toNat = m at hm sx gx ee hle
        refine goes_at (ρ1 := [.d (.int u), .d (.int s), .own (rest.map PyData.int), .own (row.map PyData.int), .d (.int (0 + (i : Int))), y0]) rfl ?_
        refine goes_seq (fun ρ => ρ = [.d (.int u), .d (.int s), .own ((rest.eraseIdx m).map PyData.int), .own ((row ++ [rest[m]]).map PyData.int), .d (.int (0 + (i : Int))), y0]) ⟨_, ?_, rfl⟩ ?_
        · have hr : row.length ≤ 100000 := by omega
          have hp : ∀ k : Int, 0 ≤ k → -(2 ^ 63) ≤ k := fun k h => by omega
          simp -implicitDefEqProofs [gAppPop, hlt, sx, gx, ee, hr]
          omega
        rintro ρ rfl
        refine goes_one ⟨[.d (.int (u / (s - ((row ++ [rest[m]]).length : Int) + 1))), .d (.int s), .own ((rest.eraseIdx m).map PyData.int), .own ((row ++ [rest[m]]).map PyData.int), .d (.int (0 + (i : Int))), y0], ?_, u / (s - ((row ++ [rest[m]]).length : Int) + 1), rest.eraseIdx m, row ++ [rest[m]], _, _, rfl, by omega, by simp [h2], ?_⟩
        · simp -implicitDefEqProofs [h2]
          omega
        · refine List.Perm.trans ?_ h3
          have q := erase_perm hm
          refine List.Perm.trans ?_ (q.append_right row)
          rw [List.cons_append]
          refine List.Perm.trans (List.Perm.append_left _ (List.perm_append_comm (l₁ := row) (l₂ := [rest[m]]))) ?_
          exact List.perm_middle
      · rintro ρ ⟨u, rest, row, x, y, rfl, h1, h2, h3⟩
        rw [rgD_len] at h1 h2
        have hr : rest = [] := List.length_eq_zero_iff.mp (by omega)
        subst hr
        exact ⟨_, rfl, row, rfl, ⟨h3⟩⟩
    · intro x hx; simp
    · intro x hx; simp
  obtain ⟨d, e, r, rfl, hr⟩ := key
  exact ⟨r, hr, e⟩
/-! ### the word of a row -/
def tr (w x : Int) : Int := if x = w - 1 then w else if x = w then w - 1 else x
theorem tr_tr (w x : Int) : tr w (tr w x) = x := by
  unfold tr
  by_cases h1 : x = w - 1
  · rw [if_pos h1, if_neg (by omega), if_pos rfl]
    omega
  · rw [if_neg h1]
    by_cases h2 : x = w
    · rw [if_pos h2, if_pos rfl]
      omega
    · rw [if_neg h2, if_neg h1, if_neg h2]
theorem restR_eq (w : Int) (r : List Int) : restR w r = r.map (tr w) := rfl
theorem restR_restR (w : Int) (r : List Int) : restR w (restR w r) = r := by
  rw [restR_eq, restR_eq, List.map_map]
  conv => rhs; rw [← List.map_id r]
  congr 1
  funext x
  exact tr_tr w x
theorem getD_map {f : Int → Int} {r : List Int} {i : Nat} (h : i < r.length) : (r.map f).getD i 0 = f (r.getD i 0) := by
  simp [List.getD, List.getElem?_eq_getElem h]
theorem swp_map {f : Int → Int} {r : List Int} {w : Int} (h : w.natAbs < r.length) : swp (r.map f) w = (swp r w).map f := by
  unfold swp
  rw [getD_map h, getD_map (by omega), List.map_set, List.map_set]
theorem fold_map {f : Int → Int} {n : Nat} : ∀ {ws : List Int} {r : List Int}, r.length = n → (∀ w ∈ ws, w.natAbs < n) → ws.foldl swp (r.map f) = (ws.foldl swp r).map f
  | [], r, _, _ => rfl
  | w :: ws, r, hl, h => by
    rw [List.foldl_cons, List.foldl_cons, swp_map (by rw [hl]; exact h w List.mem_cons_self)]
    exact fold_map (by rw [swp_len]; exact hl) fun x hx => h x (List.mem_cons_of_mem _ hx)
theorem swp_plain {n : Nat} {w : Int} (h1 : 1 ≤ w) (h2 : w < n) : swp (plainR n) w = (plainR n).map (tr w) := by
  have hl := plainR_len n
  have gp : ∀ i, i < n → (plainR n)[i]? = some (i : Int) := fun i hi => by
    unfold plainR
    rw [List.getElem?_map, List.getElem?_range hi]
    rfl
  have gd : ∀ i, i < n → (plainR n).getD i 0 = (i : Int) := fun i hi => by simp [List.getD, gp i hi]
  apply List.ext_getElem?
  intro i
  unfold swp
  rw [gd _ (by omega), gd _ (by omega), List.getElem?_map]
  by_cases hi : i < n
  · rw [gp i hi, Option.map_some]
    by_cases e1 : w.natAbs = i
    · rw [List.getElem?_set, if_pos e1, if_pos (by rw [List.length_set, hl]; omega)]
      congr 1
      unfold tr
      rw [if_neg (by omega), if_pos (by omega)]
      omega
    · rw [List.getElem?_set_ne e1]
      by_cases e2 : w.natAbs - 1 = i
      · rw [List.getElem?_set, if_pos e2, if_pos (by rw [hl]; omega)]
        congr 1
        unfold tr
        rw [if_pos (by omega)]
        omega
      · rw [List.getElem?_set_ne e2, gp i hi]
        congr 1
        unfold tr
        rw [if_neg (by omega), if_neg (by omega)]
  · rw [List.getElem?_eq_none (by simp [hl]; omega), List.getElem?_eq_none (by rw [hl]; omega)]
    rfl
theorem rowR_cons {n : Nat} {w : Int} {ws : List Int} (h1 : 1 ≤ w) (h2 : w < n) (h : ∀ x ∈ ws, x.natAbs < n) : rowR n (w :: ws) = restR w (rowR n ws) := by
  unfold rowR
  rw [List.foldl_cons, swp_plain h1 h2, fold_map (plainR_len n) h, restR_eq]
theorem Row.rest {n : Nat} {r : List Int} {w : Int} (h : Row n r) (h1 : 1 ≤ w) (h2 : w < n) : Row n (restR w r) := by
  refine ⟨(h.p.map (tr w)).trans ?_⟩
  -- the exchange of two numbers leaves the numbers
  have q := swp_plain h1 h2
  rw [← q]
  unfold swp
  have hl := plainR_len n
  have l1 : w.natAbs < (plainR n).length := by omega
  have l2 : w.natAbs - 1 < (plainR n).length := by omega
  have e1 : (plainR n).getD w.natAbs 0 = (plainR n)[w.natAbs] := by simp [List.getD, List.getElem?_eq_getElem l1]
  have e2 : (plainR n).getD (w.natAbs - 1) 0 = (plainR n)[w.natAbs - 1] := by simp [List.getD, List.getElem?_eq_getElem l2]
  rw [e1, e2]
  exact List.set_set_perm l2 l1
end DL
namespace DL
open PySem PySem.Spec PyProof.Rows L2
theorem posI_lt {k : Int} : ∀ {r : List Int}, k ∈ r → posI r k < r.length ∧ r[posI r k]? = some k
  | [], h => by cases h
  | x :: xs, h => by
    unfold posI
    by_cases e : x = k
    · rw [if_pos e]
      exact ⟨by simp, by simp [e]⟩
    · rw [if_neg e]
      obtain ⟨h1, h2⟩ := posI_lt ((List.mem_cons.mp h).resolve_left (Ne.symm e))
      exact ⟨by rw [List.length_cons]; omega, by rw [List.getElem?_cons_succ]; exact h2⟩
theorem starts_mem {n : Nat} {r : List Int} {w : Int} (hr : Row n r) (h : w ∈ startsR r) : 1 ≤ w ∧ w < n ∧ posI r w < posI r (w - 1) := by
  unfold startsR at h
  obtain ⟨i, h1, rfl⟩ := List.mem_map.mp h
  obtain ⟨h2, h3⟩ := List.mem_filter.mp h1
  have := List.mem_range.mp h2
  have := hr.len
  have e : (i : Int) + 1 - 1 = i := by omega
  rw [e]
  exact ⟨by omega, by omega, of_decide_eq_true h3⟩
def Tm : Int → List Int → Int
  | _, [] => 0
  | j, x :: xs => j * x + Tm (j + 1) xs
def Pm (k : Int) : Int → List Int → Int
  | _, [] => 0
  | j, x :: xs => (if x = k then j else 0) + Pm k (j + 1) xs
theorem Tm_rest {w : Int} : ∀ {r : List Int} {j : Int}, Tm j (restR w r) = Tm j r + Pm (w - 1) j r - Pm w j r
  | [], j => rfl
  | x :: xs, j => by
    have ih := Tm_rest (w := w) (r := xs) (j := j + 1)
    show j * tr w x + Tm (j + 1) (restR w xs) = j * x + Tm (j + 1) xs + ((if x = w - 1 then j else 0) + Pm (w - 1) (j + 1) xs) - ((if x = w then j else 0) + Pm w (j + 1) xs)
    rw [ih]
    unfold tr
    by_cases h1 : x = w - 1
    · subst h1
      rw [if_pos rfl, if_pos rfl, if_neg (by omega), Int.mul_sub]
      omega
    · rw [if_neg h1, if_neg h1]
      by_cases h2 : x = w
      · subst h2
        rw [if_pos rfl, if_pos rfl, Int.mul_sub]
        omega
      · rw [if_neg h2, if_neg h2]
        omega
theorem Pm_no {k : Int} : ∀ {r : List Int} {j : Int}, k ∉ r → Pm k j r = 0
  | [], _, _ => rfl
  | x :: xs, j, h => by
    have h1 : ¬ x = k := fun e => h (e ▸ List.mem_cons_self)
    show (if x = k then j else 0) + Pm k (j + 1) xs = 0
    rw [if_neg h1, Pm_no fun z => h (List.mem_cons_of_mem _ z)]
    rfl
theorem Pm_pos {k : Int} : ∀ {r : List Int} {j : Int}, r.Nodup → k ∈ r → Pm k j r = j + posI r k
  | [], _, _, h => by cases h
  | x :: xs, j, nd, h => by
    obtain ⟨n1, n2⟩ := List.nodup_cons.mp nd
    show (if x = k then j else 0) + Pm k (j + 1) xs = j + ((if x = k then 0 else posI xs k + 1 : Nat) : Int)
    by_cases e : x = k
    · subst e
      rw [if_pos rfl, if_pos rfl, Pm_no n1]
      rfl
    · rw [if_neg e, if_neg e, Pm_pos n2 ((List.mem_cons.mp h).resolve_left (Ne.symm e))]
      omega
theorem Tm_bound : ∀ {r : List Int} {j : Int}, 0 ≤ j → j + r.length ≤ 8 → (∀ x ∈ r, 0 ≤ x ∧ x < 8) → 0 ≤ Tm j r ∧ Tm j r ≤ 64 * r.length
  | [], j, _, _, _ => by simp [Tm]
  | x :: xs, j, h1, h2, h3 => by
    rw [List.length_cons] at h2
    obtain ⟨a1, a2⟩ := Tm_bound (r := xs) (j := j + 1) (by omega) (by omega) fun y hy => h3 y (List.mem_cons_of_mem _ hy)
    obtain ⟨b1, b2⟩ := h3 x List.mem_cons_self
    have c1 : 0 ≤ j * x := Int.mul_nonneg h1 b1
    have c2 : j * x ≤ 8 * 8 := Int.mul_le_mul (by omega) (by omega) b1 (by omega)
    show 0 ≤ j * x + Tm (j + 1) xs ∧ j * x + Tm (j + 1) xs ≤ 64 * ((xs.length + 1 : Nat) : Int)
    omega
/-- no letter to begin with: the plain row -/
theorem plain_of {n : Nat} {r : List Int} (hr : Row n r) (h : startsR r = []) : r = plainR n := by
  have hl := hr.len
  have step : ∀ i : Nat, i + 1 < n → posI r (i : Int) < posI r ((i : Int) + 1) := fun i hi => by
    have m1 := posI_lt (hr.all i (by omega))
    have m2 := posI_lt (hr.all (i + 1) hi)
    have e1 : ((i + 1 : Nat) : Int) = (i : Int) + 1 := by omega
    rw [e1] at m2
    rcases Nat.lt_trichotomy (posI r (i : Int)) (posI r ((i : Int) + 1)) with q | q | q
    · exact q
    · rw [q] at m1
      have := m1.2.symm.trans m2.2
      injection this with this
      omega
    · exfalso
      have : (i : Int) + 1 ∈ startsR r := by
        unfold startsR
        exact List.mem_map.mpr ⟨i, List.mem_filter.mpr ⟨List.mem_range.mpr (by omega), decide_eq_true q⟩, rfl⟩
      rw [h] at this
      cases this
  have low : ∀ i : Nat, i < n → i ≤ posI r (i : Int) := fun i => by
    induction i with
    | zero => intro _; exact Nat.zero_le _
    | succ i ih =>
      intro hi
      have a1 := ih (by omega)
      have a2 := step i hi
      have e1 : ((i + 1 : Nat) : Int) = (i : Int) + 1 := by omega
      rw [e1]
      omega
  have high : ∀ d i : Nat, i + d + 1 = n → posI r (i : Int) + d + 1 ≤ n := fun d => by
    induction d with
    | zero =>
      intro i hi
      have m1 := posI_lt (hr.all i (by omega))
      omega
    | succ d ih =>
      intro i hi
      have a1 := ih (i + 1) (by omega)
      have a2 := step i (by omega)
      have e1 : ((i + 1 : Nat) : Int) = (i : Int) + 1 := by omega
      rw [e1] at a1
      omega
  apply List.ext_getElem?
  intro i
  by_cases hi : i < n
  · have a1 := low i hi
    have a2 := high (n - 1 - i) i (by omega)
    have e : posI r (i : Int) = i := by omega
    have m1 := (posI_lt (hr.all i hi)).2
    rw [e] at m1
    rw [m1]
    unfold plainR
    rw [List.getElem?_map, List.getElem?_range hi]
    rfl
  · rw [List.getElem?_eq_none (by omega), List.getElem?_eq_none (by rw [plainR_len]; omega)]
/-- the word of a row, as the laws write it -/
def rwd : Nat → List Int → List Int
  | 0, _ => []
  | f + 1, r => match startsR r with
    | [] => []
    | w :: _ => w :: rwd f (restR w r)
theorem less {n : Nat} {r : List Int} {w : Int} (hn : n ≤ 8) (hr : Row n r) (h : w ∈ startsR r) : Tm 0 r < Tm 0 (restR w r) := by
  obtain ⟨h1, h2, h3⟩ := starts_mem hr h
  have m1 : w ∈ r := hr.mem.mpr (by omega)
  have m2 : w - 1 ∈ r := hr.mem.mpr (by omega)
  rw [Tm_rest, Pm_pos hr.nd m1, Pm_pos hr.nd m2]
  omega
theorem bound {n : Nat} {r : List Int} (hn : n ≤ 8) (hr : Row n r) : 0 ≤ Tm 0 r ∧ Tm 0 r ≤ 512 := by
  have hl := hr.len
  have := Tm_bound (r := r) (j := 0) (by omega) (by omega) fun x hx => by have := hr.mem.mp hx; omega
  omega
theorem rwd_ok {n : Nat} (hn : n ≤ 8) : ∀ {f : Nat} {r : List Int}, Row n r → 512 - Tm 0 r < (f : Int) → (∀ w ∈ rwd f r, 1 ≤ w ∧ w < n) ∧ rowR n (rwd f r) = r
  | 0, r, hr, hf => by
    have := bound hn hr
    omega
  | f + 1, r, hr, hf => by
    unfold rwd
    cases hs : startsR r with
    | nil => exact ⟨fun w h => (by cases h), (plain_of hr hs).symm⟩
    | cons w ws =>
      have hw : w ∈ startsR r := by rw [hs]; exact List.mem_cons_self
      obtain ⟨h1, h2, h3⟩ := starts_mem hr hw
      have hl := less hn hr hw
      obtain ⟨a1, a2⟩ := rwd_ok hn (f := f) (hr.rest h1 h2) (by omega)
      dsimp only
      refine ⟨fun x hx => ?_, ?_⟩
      · rcases List.mem_cons.mp hx with e | e
        · subst e; exact ⟨h1, h2⟩
        · exact a1 x e
      · rw [rowR_cons h1 h2 fun x hx => by have := a1 x hx; omega, a2, restR_restR]
theorem rwd_len {n : Nat} (hn : n ≤ 8) : ∀ {f : Nat} {r : List Int}, Row n r → 512 - Tm 0 r < (f : Int) → ((rwd f r).length : Int) ≤ 512 - Tm 0 r
  | 0, r, hr, hf => by
    have := bound hn hr
    omega
  | f + 1, r, hr, hf => by
    unfold rwd
    cases hs : startsR r with
    | nil =>
      have := bound hn hr
      show ((0 : Nat) : Int) ≤ _
      omega
    | cons w ws =>
      have hw : w ∈ startsR r := by rw [hs]; exact List.mem_cons_self
      obtain ⟨h1, h2, h3⟩ := starts_mem hr hw
      have hl := less hn hr hw
      have := rwd_len hn (f := f) (hr.rest h1 h2) (by omega)
      show (((rwd f (restR w r)).length + 1 : Nat) : Int) ≤ _
      omega
theorem wh_row {n : Nat} (hn : n ≤ 8) {FS' FR : FD} (hS : ∀ r, Row n r → FS' [wd r] = some (.list ((startsR r).map PyData.int))) (hR : ∀ r w, Row n r → FR [wd r, .int w] = some (wd (restR w r))) : ∀ (f : Nat) (r ws : List Int) (x : Slot), Row n r → 512 - Tm 0 r < (f : Int) → (ws.length : Int) ≤ Tm 0 r →
    ∃ r' x', whD (fB (f2 gNe (fCall FS' (aCons (fVar 0) aNil)) (fLst aNil))) (gSeq (gSet 2 (f2 gIx (fCall FS' (aCons (fVar 0) aNil)) (fC (.int 0)))) (gSeq (gApp 1 (fVar 2)) (gSet 0 (fCall FR (aCons (fVar 0) (aCons (fVar 2) aNil)))))) f [.d (wd r), .own (ws.map PyData.int), x]
      = some (.nx [.d (wd r'), .own ((ws ++ rwd f r).map PyData.int), x'])
  | 0, r, ws, x, hr, hf, _ => by
    have := bound hn hr
    omega
  | f + 1, r, ws, x, hr, hf, hw => by
    have hb := bound hn hr
    unfold whD
    cases hs : startsR r with
    | nil =>
      refine ⟨r, x, ?_⟩
      have e := hS r hr
      rw [hs] at e
      have ell : (PyData.list []).eqv (.list []) = true := by simp [PyData.eqv, PyData.eqvAll]
      simp -implicitDefEqProofs [e, ell, rwd, hs]
    | cons w vs =>
      have hw' : w ∈ startsR r := by rw [hs]; exact List.mem_cons_self
      obtain ⟨h1, h2, h3⟩ := starts_mem hr hw'
      have hl := less hn hr hw'
      obtain ⟨r', x', e'⟩ := wh_row hn hS hR f (restR w r) (ws ++ [w]) (.d (.int w)) (hr.rest h1 h2) (by omega) (by rw [List.length_append, List.length_singleton]; omega)
      refine ⟨r', x', ?_⟩
      have e := hS r hr
      rw [hs] at e
      have e2 := hR r w hr
      have sh : SeqAt.shaped (.list (.int w :: vs.map PyData.int)) = true := shaped_ints_l (ns := w :: vs)
      have ne : (PyData.list (.int w :: vs.map PyData.int)).eqv (.list []) = false := by simp [PyData.eqv, PyData.eqvAll]
      have small' : ws.length ≤ 100000 := by omega
      simp -implicitDefEqProofs [e, e2, sh, ne, small']
      have er : rwd (f + 1) r = w :: rwd f (restR w r) := by
        show (match startsR r with
          | [] => []
          | w :: _ => w :: rwd f (restR w r)) = _
        rw [hs]
      rw [er]
      have ea : ws ++ w :: rwd f (restR w r) = (ws ++ [w]) ++ rwd f (restR w r) := by simp
      simpa using e'
theorem r_row_word {n : Nat} (hn : n ≤ 8) {FS' FR : FD} (hS : ∀ r, Row n r → FS' [wd r] = some (.list ((startsR r).map PyData.int))) (hR : ∀ r w, Row n r → FR [wd r, .int w] = some (wd (restR w r))) {r : List Int} (hr : Row n r) :
    runD 3 (G_row_word FS' FR (fun _ => 1000)) [wd r] = some (wd (rwd 1000 r)) := by
  have hb := bound hn hr
  obtain ⟨r', x', e⟩ := wh_row hn hS hR 1000 r [] .und hr (by omega) (by simp; omega)
  simp only [List.map_nil, List.nil_append] at e
  simp -implicitDefEqProofs [runD_eq, G_row_word, Option.bind_assoc]
  rw [gWh, e, Option.bind_some]
  simp -implicitDefEqProofs
end DL
/-! the laws' own words about curves -/
namespace DL
open PySem PySem.Spec PyProof.Rows L2
/-- slots 0 x -/
def G_up : FS := (gRet (fIf (fB (f2 gGt (fVar 0) (fC (.int 0)))) (fVar 0) (fC (.int 0))))
/-- slots 0 x -/
def G_down : FS := (gRet (fIf (fB (f2 gLt (fVar 0) (fC (.int 0)))) (fVar 0) (fC (.int 0))))
/-- slots 0 curve, 1 word, 2 pairs, 3 letter, 4 found, 5 pair, 6 k, 7 a, 8 b, 9 c, 10 d, 11 e -/
def G_carried (F__law_down : FD) (F__law_up : FD) : FS := (gSeq (gSetO 2 (fLc (rg1 (aCons (f2 gDiv (fC1 gLen (aCons (fVar 0) aNil)) (fC (.int 2))) aNil)) 6 cYes (fC1 gList (aCons (fSl (fVar 0) (oSome (f2 gMul (fC (.int 2)) (fVar 6))) (oSome (f2 gAdd (f2 gMul (fC (.int 2)) (fVar 6)) (fC (.int 2))))) aNil)) [6]))
    (gSeq (gFor (itF (fVar 1)) (uName 3) (gSeq (gSet 6 (f2 gMinus (fC1 gAbs (aCons (fVar 3) aNil)) (fC (.int 1))))
    (gSeq (gAsg (uTup 2 (uCons (uName 7) (uCons (uName 8) uNil))) (f2 gIx (fVar 2) (fVar 6)))
    (gSeq (gAsg (uTup 2 (uCons (uName 9) (uCons (uName 10) uNil))) (f2 gIx (fVar 2) (f2 gAdd (fVar 6) (fC (.int 1)))))
    (gIf (fB (f2 gGt (fVar 3) (fC (.int 0)))) (gSeq (gSet 11 (f2 gAdd (f2 gMinus (f2 gMinus (fVar 7) (fCall F__law_down (aCons (fVar 8) aNil))) (fVar 9)) (fCall F__law_up (aCons (fVar 10) aNil))))
    (gSeq (gPut 2 (fVar 6) (fLst (aCons (f2 gAdd (f2 gAdd (fVar 7) (fCall F__law_up (aCons (fVar 8) aNil))) (fCall F__law_up (aCons (f2 gMinus (fCall F__law_up (aCons (fVar 10) aNil)) (fVar 11)) aNil))) (aCons (f2 gMinus (fVar 10) (fCall F__law_up (aCons (fVar 11) aNil))) aNil))))
    (gPut 2 (f2 gAdd (fVar 6) (fC (.int 1))) (fLst (aCons (f2 gAdd (f2 gAdd (fVar 9) (fCall F__law_down (aCons (fVar 10) aNil))) (fCall F__law_down (aCons (f2 gAdd (fCall F__law_down (aCons (fVar 8) aNil)) (fVar 11)) aNil))) (aCons (f2 gAdd (fVar 8) (fCall F__law_up (aCons (fVar 11) aNil))) aNil)))))) (gSeq (gSet 11 (f2 gMinus (f2 gMinus (f2 gAdd (fVar 7) (fCall F__law_down (aCons (fVar 8) aNil))) (fVar 9)) (fCall F__law_up (aCons (fVar 10) aNil))))
    (gSeq (gPut 2 (fVar 6) (fLst (aCons (f2 gMinus (f2 gMinus (fVar 7) (fCall F__law_up (aCons (fVar 8) aNil))) (fCall F__law_up (aCons (f2 gAdd (fCall F__law_up (aCons (fVar 10) aNil)) (fVar 11)) aNil))) (aCons (f2 gAdd (fVar 10) (fCall F__law_down (aCons (fVar 11) aNil))) aNil))))
    (gPut 2 (f2 gAdd (fVar 6) (fC (.int 1))) (fLst (aCons (f2 gMinus (f2 gMinus (fVar 9) (fCall F__law_down (aCons (fVar 10) aNil))) (fCall F__law_down (aCons (f2 gMinus (fCall F__law_down (aCons (fVar 8) aNil)) (fVar 11)) aNil))) (aCons (f2 gMinus (fVar 8) (fCall F__law_down (aCons (fVar 11) aNil))) aNil)))))))))))
    (gSeq (gSet 4 (fLst aNil))
    (gSeq (gFrz 2 (gFor (itF (fVar 2)) (uName 5) (gSet 4 (f2 gAdd (fVar 4) (fVar 5)))))
    (gRet (fC1 gTuple (aCons (fVar 4) aNil)))))))
/-- slots 0 strands, 1 word -/
def G_curve (F__law_carried : FD) : FS := (gRet (fCall F__law_carried (aCons (f2 gMul (fTup (aCons (fC (.int 0)) (aCons (fC (.int 1)) aNil))) (fVar 0)) (aCons (fVar 1) aNil))))
def upI (x : Int) : Int := if x < 0 then 0 else x
def dnI (x : Int) : Int := if x < 0 then x else 0
theorem r_up {x : Int} : runD 1 G_up [.int x] = some (.int (upI x)) := by
  by_cases h : 0 < x
  · have h2 : ¬ x < 0 := by omega
    simp -implicitDefEqProofs [runD_eq, G_up, upI, h, h2]
  · by_cases h2 : x < 0
    · simp -implicitDefEqProofs [runD_eq, G_up, upI, h, h2]
    · have h3 : x = 0 := by omega
      subst h3
      simp -implicitDefEqProofs [runD_eq, G_up, upI]
theorem r_down {x : Int} : runD 1 G_down [.int x] = some (.int (dnI x)) := by
  by_cases h : x < 0
  · simp -implicitDefEqProofs [runD_eq, G_down, dnI, h]
  · simp -implicitDefEqProofs [runD_eq, G_down, dnI, h]
/-- a letter on a list of pairs -/
def lstp (w : Int) (ps : List (Int × Int)) : List (Int × Int) :=
  let a := (ps.getD (w.natAbs - 1) (0, 0)).1
  let b := (ps.getD (w.natAbs - 1) (0, 0)).2
  let c := (ps.getD w.natAbs (0, 0)).1
  let d := (ps.getD w.natAbs (0, 0)).2
  if 0 < w then
    let e := a - dnI b - c + upI d
    (ps.set (w.natAbs - 1) (a + upI b + upI (upI d - e), d - upI e)).set w.natAbs (c + dnI d + dnI (dnI b + e), b + upI e)
  else
    let e := a + dnI b - c - upI d
    (ps.set (w.natAbs - 1) (a - upI b - upI (upI d + e), d + dnI e)).set w.natAbs (c - dnI d - dnI (dnI b - e), b - dnI e)
def pD (p : Int × Int) : PyData := .list [.int p.1, .int p.2]
def flatP (ps : List (Int × Int)) : List Int := ps.flatMap fun p => [p.1, p.2]
theorem lstp_len (w : Int) (ps : List (Int × Int)) : (lstp w ps).length = ps.length := by
  unfold lstp
  dsimp only
  split <;> rw [List.length_set, List.length_set]
theorem flatP_len (ps : List (Int × Int)) : (flatP ps).length = 2 * ps.length := by
  unfold flatP
  induction ps with
  | nil => rfl
  | cons p ps ih =>
    rw [List.flatMap_cons, List.length_append, ih, List.length_cons]
    show 2 + 2 * ps.length = 2 * (ps.length + 1)
    omega
theorem flatP_cut : ∀ {ps : List (Int × Int)} {k : Nat} {p : Int × Int}, ps[k]? = some p → ((flatP ps).drop (2 * k)).take 2 = [p.1, p.2]
  | [], k, p, h => by simp at h
  | q :: ps, 0, p, h => by
    simp at h
    subst h
    rfl
  | q :: ps, k + 1, p, h => by
    have e : 2 * (k + 1) = 2 + 2 * k := by omega
    rw [e]
    show (([q.1, q.2] ++ flatP ps).drop (2 + 2 * k)).take 2 = _
    rw [← List.drop_drop]
    exact flatP_cut (by simpa using h)
theorem r_carried {FD' FU' : FD} (hd : ∀ x, FD' [.int x] = some (.int (dnI x))) (hu : ∀ x, FU' [.int x] = some (.int (upI x))) {ps : List (Int × Int)} {ws : List Int} (hp : ps.length ≤ 1000) (hl : ws.length ≤ 100000) (hw : ∀ w ∈ ws, w ≠ 0 ∧ w.natAbs < ps.length) :
    runD 12 (G_carried FD' FU') [wd (flatP ps), wd ws] = some (wd (flatP (ws.foldl (fun c w => lstp w c) ps))) := by
  have lf := flatP_len ps
  have h2 : ((flatP ps).length : Int) / 2 = (ps.length : Int) := by omega
  simp -implicitDefEqProofs [runD_eq, G_carried, Option.bind_assoc, -List.map_map, h2]
  rw [rg1_nat (by omega), Option.bind_some, if_pos (by rw [rgD_len]; omega), rgD0, lcD_all (e := fun i : Nat => PyData.int (i : Int)) (e' := pD) (fun i : Nat => ps.getD i (0, 0))]
  · have em : (List.range ps.length).map (fun i : Nat => ps.getD i (0, 0)) = ps := by
      apply List.ext_getElem?
      intro i
      by_cases hi : i < ps.length
      · rw [List.getElem?_map, List.getElem?_range hi, List.getElem?_eq_getElem hi]
        simp [List.getD, List.getElem?_eq_getElem hi]
      · rw [List.getElem?_eq_none (by simp; omega), List.getElem?_eq_none (by omega)]
    rw [em]
    simp -implicitDefEqProofs [-List.map_map, Option.bind_assoc]
    refine forD_all (fun i ρ => ∃ x3 x4 x5 x6 x7 x8 x9 x10 x11, ρ = [Slot.d (wd (flatP ps)), Slot.d (wd ws), Slot.own (((ws.take i).foldl (fun c w => lstp w c) ps).map pD), x3, x4, x5, x6, x7, x8, x9, x10, x11]) ⟨_, _, _, _, _, _, _, _, _, rfl⟩ ?_ ?_
    · rintro i x ρ hi ⟨x3, x4, x5, x6, x7, x8, x9, x10, x11, rfl⟩
      obtain ⟨w, hw1, rfl⟩ := map_get hi
      obtain ⟨h0, h1⟩ := hw w (List.mem_of_getElem? hw1)
      have e : (ws.take (i + 1)).foldl (fun c w => lstp w c) ps = lstp w ((ws.take i).foldl (fun c w => lstp w c) ps) := by
        rw [List.take_succ, hw1, List.foldl_append]
        rfl
      have hlen : ((ws.take i).foldl (fun c w => lstp w c) ps).length = ps.length := by
        have key : ∀ (us : List Int) (q : List (Int × Int)), (us.foldl (fun c w => lstp w c) q).length = q.length := fun us => by
          induction us with
          | nil => intro q; rfl
          | cons u us ih => intro q; rw [List.foldl_cons, ih, lstp_len]
        rw [key]
      rw [e]
      generalize (ws.take i).foldl (fun c w => lstp w c) ps = qs at hlen
      have ea : (if w < 0 then -w else w) = ((w.natAbs : Nat) : Int) := by omega
      have eb : ((w.natAbs : Nat) : Int) - 1 = ((w.natAbs - 1 : Nat) : Int) := by omega
      have ec : ((w.natAbs - 1 : Nat) : Int) + 1 = ((w.natAbs : Nat) : Int) := by omega
      have l1 : w.natAbs < qs.length := by omega
      have l2 : w.natAbs - 1 < qs.length := by omega
      have g1 : atI (qs.map pD) ((w.natAbs : Nat) : Int) = some (pD (qs.getD w.natAbs (0, 0))) := atI_nat (by rw [List.getElem?_map, List.getElem?_eq_getElem l1]; simp [List.getD, List.getElem?_eq_getElem l1])
      have g2 : atI (qs.map pD) ((w.natAbs - 1 : Nat) : Int) = some (pD (qs.getD (w.natAbs - 1) (0, 0))) := atI_nat (by rw [List.getElem?_map, List.getElem?_eq_getElem l2]; simp [List.getD, List.getElem?_eq_getElem l2])
      refine goes_at (ρ1 := [Slot.d (wd (flatP ps)), Slot.d (wd ws), Slot.own (qs.map pD), Slot.d (.int w), x4, x5, x6, x7, x8, x9, x10, x11]) rfl ?_
      by_cases hpos : 0 < w
      · refine goes_one ⟨[Slot.d (wd (flatP ps)), Slot.d (wd ws), Slot.own ((lstp w qs).map pD), Slot.d (.int w), x4, x5, .d (.int ((w.natAbs - 1 : Nat) : Int)), .d (.int (qs.getD (w.natAbs - 1) (0, 0)).1), .d (.int (qs.getD (w.natAbs - 1) (0, 0)).2), .d (.int (qs.getD w.natAbs (0, 0)).1), .d (.int (qs.getD w.natAbs (0, 0)).2), .d (.int ((qs.getD (w.natAbs - 1) (0, 0)).1 - dnI (qs.getD (w.natAbs - 1) (0, 0)).2 - (qs.getD w.natAbs (0, 0)).1 + upI (qs.getD w.natAbs (0, 0)).2))], ?_, _, _, _, _, _, _, _, _, _, rfl⟩
        simp -implicitDefEqProofs [ea, eb, ec, g1, g2, pD, hpos, hd, hu, ixN_nat l1, ixN_nat l2, lstp]
      · refine goes_one ⟨[Slot.d (wd (flatP ps)), Slot.d (wd ws), Slot.own ((lstp w qs).map pD), Slot.d (.int w), x4, x5, .d (.int ((w.natAbs - 1 : Nat) : Int)), .d (.int (qs.getD (w.natAbs - 1) (0, 0)).1), .d (.int (qs.getD (w.natAbs - 1) (0, 0)).2), .d (.int (qs.getD w.natAbs (0, 0)).1), .d (.int (qs.getD w.natAbs (0, 0)).2), .d (.int ((qs.getD (w.natAbs - 1) (0, 0)).1 + dnI (qs.getD (w.natAbs - 1) (0, 0)).2 - (qs.getD w.natAbs (0, 0)).1 - upI (qs.getD w.natAbs (0, 0)).2))], ?_, _, _, _, _, _, _, _, _, _, rfl⟩
        simp -implicitDefEqProofs [ea, eb, ec, g1, g2, pD, hpos, hd, hu, ixN_nat l1, ixN_nat l2, lstp]
    · rintro ρ ⟨x3, x4, x5, x6, x7, x8, x9, x10, x11, rfl⟩
      have hlen : (ws.foldl (fun c w => lstp w c) ps).length = ps.length := by
        have key : ∀ (us : List Int) (q : List (Int × Int)), (us.foldl (fun c w => lstp w c) q).length = q.length := fun us => by
          induction us with
          | nil => intro q; rfl
          | cons u us ih => intro q; rw [List.foldl_cons, ih, lstp_len]
        rw [key]
      simp -implicitDefEqProofs [-List.map_map]
      generalize ws.foldl (fun c w => lstp w c) ps = qs at hlen
      rw [frz_own (xs := qs.map pD) rfl]
      simp -implicitDefEqProofs [-List.map_map, Option.bind_assoc]
      refine forD_all (fun i ρ => ∃ y5, ρ = [Slot.d (wd (flatP ps)), Slot.d (wd ws), Slot.d (.list (qs.map pD)), x3, Slot.d (.list ((flatP (qs.take i)).map PyData.int)), y5, x6, x7, x8, x9, x10, x11]) ⟨_, rfl⟩ ?_ ?_
      · rintro i x ρ hi ⟨y5, rfl⟩
        obtain ⟨p, hp1, rfl⟩ := map_get hi
        have e : flatP (qs.take (i + 1)) = flatP (qs.take i) ++ [p.1, p.2] := by
          rw [List.take_succ, hp1]
          unfold flatP
          rw [List.flatMap_append]
          rfl
        have ls : (flatP (qs.take i)).length + 2 ≤ 100000 := by
          rw [flatP_len, List.length_take]
          omega
        refine goes_at (ρ1 := [Slot.d (wd (flatP ps)), Slot.d (wd ws), Slot.d (.list (qs.map pD)), x3, Slot.d (.list ((flatP (qs.take i)).map PyData.int)), .d (pD p), x6, x7, x8, x9, x10, x11]) rfl ?_
        refine goes_one ⟨[Slot.d (wd (flatP ps)), Slot.d (wd ws), Slot.d (.list (qs.map pD)), x3, Slot.d (.list ((flatP (qs.take (i + 1))).map PyData.int)), .d (pD p), x6, x7, x8, x9, x10, x11], ?_, _, rfl⟩
        rw [e]
        have ls' : (flatP (qs.take i)).length ≤ 99998 := by omega
        simp -implicitDefEqProofs [pD, ls, ls', -List.map_map]
      · rintro ρ ⟨y5, rfl⟩
        simp -implicitDefEqProofs [-List.map_map]
  · intro x hx; simp
  · intro x hx
    have hx' := List.mem_range.mp hx
    have c2 : CMul 2 (x : Int) := .inl ⟨by decide, by decide⟩
    have e1 : cutD ((flatP ps).map PyData.int) (some (2 * (x : Int))) (some (2 * (x : Int) + 2)) = ([(ps.getD x (0, 0)).1, (ps.getD x (0, 0)).2] : List Int).map PyData.int := by
      rw [cut_map, cut_mid (by omega) (by omega)]
      have a1 : (2 * (x : Int)).toNat = 2 * x := by omega
      have a2 : (2 * (x : Int) + 2).toNat - 2 * x = 2 := by omega
      rw [a1, a2, flatP_cut (p := ps.getD x (0, 0)) (by simp [List.getD, List.getElem?_eq_getElem hx'])]
    simp -implicitDefEqProofs [c2, e1, pD]
end DL
/-! the laws' curves -/
namespace DL
open PySem PySem.Spec PyProof.Rows L2
theorem getD_set {ps : List (Int × Int)} {i j : Nat} {v : Int × Int} (h : j < ps.length) : (ps.set j v).getD i (0, 0) = if i = j then v else ps.getD i (0, 0) := by
  by_cases e : i = j
  · subst e
    rw [if_pos rfl]
    simp [List.getD, h]
  · rw [if_neg e]
    simp [List.getD, List.getElem?_set_ne (Ne.symm e)]
def carP (ws : List Int) (ps : List (Int × Int)) : List (Int × Int) := ws.foldl (fun c w => lstp w c) ps
theorem carP_len (ws : List Int) : ∀ ps : List (Int × Int), (carP ws ps).length = ps.length := by
  induction ws with
  | nil => intro q; rfl
  | cons u us ih =>
    intro q
    show (carP us (lstp u q)).length = _
    rw [ih, lstp_len]
/-- the plain curve of n strands -/
def plainP (n : Nat) : List (Int × Int) := List.replicate n (0, 1)
def curveL (n : Nat) (ws : List Int) : List Int := flatP (carP ws (plainP n))
theorem rep_plain : ∀ n : Nat, (List.replicate n [PyData.int 0, PyData.int 1]).flatten = (flatP (plainP n)).map PyData.int
  | 0 => rfl
  | n + 1 => by
    rw [List.replicate_succ, List.flatten_cons, rep_plain n]
    rfl
theorem r_curve {FC : FD} {s : Int} {ws : List Int} (hs1 : 2 ≤ s) (hs2 : s ≤ 1000) (hc : ∀ ps : List (Int × Int), ps.length = s.toNat → FC [wd (flatP ps), wd ws] = some (wd (flatP (carP ws ps)))) : runD 2 (G_curve FC) [.int s, wd ws] = some (wd (curveL s.toNat ws)) := by
  have e := hc (plainP s.toNat) (by unfold plainP; rw [List.length_replicate])
  have w1 : wd (flatP (plainP s.toNat)) = .tuple (List.replicate s.toNat [PyData.int 0, PyData.int 1]).flatten := by rw [rep_plain]
  rw [w1] at e
  simp -implicitDefEqProofs [runD_eq, G_curve, hs1, hs2, e, curveL]
end DL
namespace DL
open PySem PySem.Spec PyProof.Rows L2
/-- slots 0 word, 1 k -/
def G_undone : FS := (gRet (fC1 gTuple (aCons (fLc (rg1 (aCons (fC1 gLen (aCons (fVar 0) aNil)) aNil)) 1 cYes (f2 gMinus (fC (.int 0)) (f2 gIx (fVar 0) (f2 gMinus (f2 gMinus (fC1 gLen (aCons (fVar 0) aNil)) (fC (.int 1))) (fVar 1)))) [1]) aNil)))
/-- slots 0 strands, 1 form, 2 turn, 3 word, 4 spare, 5 row, 6 k -/
def G_form_word (F__law_row_word : FD) (F__law_undone : FD) : FS := (gSeq (gSet 2 (fCall F__law_row_word (aCons (fC1 gTuple (aCons (fLc (rg1 (aCons (fVar 0) aNil)) 6 cYes (f2 gMinus (f2 gMinus (fVar 0) (fC (.int 1))) (fVar 6)) [6]) aNil)) aNil)))
    (gSeq (gSet 3 (fTup aNil))
    (gSeq (gFor (rg1 (aCons (fC1 gAbs (aCons (f2 gIx (fVar 1) (fC (.int 0))) aNil)) aNil)) (uName 4) (gSet 3 (f2 gAdd (fVar 3) (f2 gIx (fLst (aCons (fVar 2) (aCons (fCall F__law_undone (aCons (fVar 2) aNil)) aNil))) (fC1 gInt (aCons (f2 gLt (f2 gIx (fVar 1) (fC (.int 0))) (fC (.int 0))) aNil))))))
    (gSeq (gFor (itF (f2 gIx (fVar 1) (fC (.int 1)))) (uName 5) (gSet 3 (f2 gAdd (fVar 3) (fCall F__law_row_word (aCons (fVar 5) aNil)))))
    (gRet (fVar 3))))))
/-- slots 0 curve, 1 k -/
def G_lean : FS := (gSeq (gFor (rg1 (aCons (f2 gDiv (fC1 gLen (aCons (fVar 0) aNil)) (fC (.int 2))) aNil)) (uName 1) (gIf (fB (f2 gNe (f2 gIx (fVar 0) (f2 gMul (fC (.int 2)) (fVar 1))) (fC (.int 0)))) (gRet (fIf (fB (f2 gGt (f2 gIx (fVar 0) (f2 gMul (fC (.int 2)) (fVar 1))) (fC (.int 0)))) (fC (.int 1)) (f1 gNeg (fC (.int 1))))) DL.gNil))
    (gRet (fC (.int 0))))
def undoneL (ws : List Int) : List Int := ws.reverse.map fun w => -w
theorem r_undone {ws : List Int} (hl : ws.length ≤ 100000) : runD 2 G_undone [wd ws] = some (wd (undoneL ws)) := by
  simp -implicitDefEqProofs [runD_eq, G_undone, -List.map_map]
  rw [rg1_nat (by omega), Option.bind_some, if_pos (by rw [rgD_len]; omega), rgD0, lcD_all (e := fun i : Nat => PyData.int (i : Int)) (e' := PyData.int) (fun i : Nat => (undoneL ws).getD i 0)]
  · have hu : (undoneL ws).length = ws.length := by unfold undoneL; rw [List.length_map, List.length_reverse]
    have em : (List.range ws.length).map (fun i : Nat => (undoneL ws).getD i 0) = undoneL ws := by
      apply List.ext_getElem?
      intro i
      by_cases hi : i < ws.length
      · rw [List.getElem?_map, List.getElem?_range hi, List.getElem?_eq_getElem (by omega)]
        simp [List.getD, List.getElem?_eq_getElem (show i < (undoneL ws).length by omega)]
      · rw [List.getElem?_eq_none (by simp; omega), List.getElem?_eq_none (by omega)]
    rw [em]
    simp -implicitDefEqProofs [-List.map_map]
  · intro x hx; simp
  · intro x hx
    have hx' := List.mem_range.mp hx
    have g1 : atI (ws.map PyData.int) ((ws.length : Int) - 1 - (x : Int)) = some (.int (ws.getD (ws.length - 1 - x) 0)) := by
      have e : (ws.length : Int) - 1 - (x : Int) = ((ws.length - 1 - x : Nat) : Int) := by omega
      rw [e]
      exact atI_int (by omega)
    have e2 : (undoneL ws).getD x 0 = -(ws.getD (ws.length - 1 - x) 0) := by
      unfold undoneL
      rw [List.getD_eq_getElem?_getD, List.getElem?_map, List.getElem?_reverse hx', List.getD_eq_getElem?_getD, List.getElem?_eq_getElem (show ws.length - 1 - x < ws.length by omega)]
      rfl
    rw [e2]
    simp -implicitDefEqProofs [g1]
/-- the lean of a list of pairs -/
def leanP : List (Int × Int) → Int
  | [] => 0
  | p :: ps => if p.1 = 0 then leanP ps else if 0 < p.1 then 1 else -1
theorem flatP_at {ps : List (Int × Int)} {k : Nat} {p : Int × Int} (h : ps[k]? = some p) : atI ((flatP ps).map PyData.int) ((2 * k : Nat) : Int) = some (.int p.1) := by
  have q := flatP_cut h
  have hk : k < ps.length := (List.getElem?_eq_some_iff.mp h).1
  have hl := flatP_len ps
  have e : (flatP ps)[2 * k]? = some p.1 := by
    have z := congrArg (fun l => l[0]?) q
    simpa [List.getElem?_take, List.getElem?_drop] using z
  exact atI_nat (by rw [List.getElem?_map, e]; rfl)
theorem r_lean {ps : List (Int × Int)} (hp : ps.length ≤ 1000) : runD 2 G_lean [wd (flatP ps)] = some (.int (leanP ps)) := by
  have lf := flatP_len ps
  have h2 : ((flatP ps).length : Int) / 2 = (ps.length : Int) := by omega
  simp -implicitDefEqProofs [runD_eq, G_lean, Option.bind_assoc, -List.map_map, h2]
  rw [rg1_nat (by omega), Option.bind_some]
  refine forD_go (fun i ρ => ∃ x, ρ = [Slot.d (wd (flatP ps)), x] ∧ leanP ps = leanP (ps.drop i)) (fun d => d = .int (leanP ps)) ⟨_, rfl, rfl⟩ ?_ ?_ ?_
  · rintro i x ρ hi ⟨x0, rfl, hle⟩
    obtain ⟨h5, rfl⟩ := rgD_get hi
    have hd : ps.drop i = ps[i] :: ps.drop (i + 1) := List.drop_eq_getElem_cons h5
    have g := flatP_at (List.getElem?_eq_getElem h5)
    have e2 : ((2 * i : Nat) : Int) = 2 * (i : Int) := by omega
    rw [e2] at g
    have c2 : CMul 2 (i : Int) := .inl ⟨by decide, by decide⟩
    rw [hd] at hle
    generalize ps[i] = p at g hle
    have hle' : leanP ps = if p.1 = 0 then leanP (ps.drop (i + 1)) else if 0 < p.1 then 1 else -1 := hle
    by_cases h0 : p.1 = 0
    · rw [if_pos h0] at hle'
      simp -implicitDefEqProofs [g, c2, h0]
      exact hle'
    · rw [if_neg h0] at hle'
      by_cases h3 : 0 < p.1
      · rw [if_pos h3] at hle'
        simp -implicitDefEqProofs [g, c2, h0, h3, hle']
      · rw [if_neg h3] at hle'
        simp -implicitDefEqProofs [g, c2, h0, h3, hle']
  · rintro ρ ⟨x, rfl, hle⟩
    rw [rgD_len, List.drop_length] at hle
    rw [hle]
    simp -implicitDefEqProofs [leanP]
  · rintro d rfl
    simp -implicitDefEqProofs
end DL
/-! the program's curves -/
namespace DL
open PySem PySem.Spec PyProof.Rows L2
def P_plain : FS := (gRet (f2 gMul (fTup (aCons (fC (.int 0)) (aCons (fC (.int 1)) aNil))) (fVar 0)))
def P_carried (F__crossed : FD) (F__crossed_back : FD) : FS := (gSeq (gSetO 2 (fC1 gList (aCons (fVar 0) aNil)))
    (gSeq (gFor (itF (fVar 1)) (uName 3) (gSeq (gSet 4 (f2 gMinus (f2 gMul (fC (.int 2)) (fC1 gAbs (aCons (fVar 3) aNil))) (fC (.int 2))))
    (gSeq (gAsg (uTup 4 (uCons (uName 5) (uCons (uName 6) (uCons (uName 7) (uCons (uName 8) uNil))))) (fSl (fVar 2) (oSome (fVar 4)) (oSome (f2 gAdd (fVar 4) (fC (.int 4))))))
    (gIf (fB (f2 gGt (fVar 3) (fC (.int 0)))) (gCutS 2 (oSome (fVar 4)) (oSome (f2 gAdd (fVar 4) (fC (.int 4)))) (fCall F__crossed (aCons (fVar 5) (aCons (fVar 6) (aCons (fVar 7) (aCons (fVar 8) aNil)))))) (gCutS 2 (oSome (fVar 4)) (oSome (f2 gAdd (fVar 4) (fC (.int 4)))) (fCall F__crossed_back (aCons (fVar 5) (aCons (fVar 6) (aCons (fVar 7) (aCons (fVar 8) aNil))))))))))
    (gRet (fC1 gTuple (aCons (fVar 2) aNil)))))
def P_curve_of (F_carried : FD) (F_plain_curve : FD) : FS := (gRet (fCall F_carried (aCons (fCall F_plain_curve (aCons (fVar 0) aNil)) (aCons (fVar 1) aNil))))
def P_lean : FS := (gSeq (gFor (itF (f1 (gEvery 2) (fVar 0))) (uName 1) (gIf (fB (f2 gNe (fVar 1) (fC (.int 0)))) (gRet (fIf (fB (f2 gGt (fVar 1) (fC (.int 0)))) (fC (.int 1)) (f1 gNeg (fC (.int 1))))) DL.gNil))
    (gRet (fC (.int 0))))
def P_crossed : FS := (gSeq (gSet 4 (f2 gAdd (f2 gMinus (f2 gMinus (fVar 0) (fC1 gMin (aCons (fVar 1) (aCons (fC (.int 0)) aNil)))) (fVar 2)) (fC1 gMax (aCons (fVar 3) (aCons (fC (.int 0)) aNil)))))
    (gRet (fTup (aCons (f2 gAdd (f2 gAdd (fVar 0) (fC1 gMax (aCons (fVar 1) (aCons (fC (.int 0)) aNil)))) (fC1 gMax (aCons (f2 gMinus (fC1 gMax (aCons (fVar 3) (aCons (fC (.int 0)) aNil))) (fVar 4)) (aCons (fC (.int 0)) aNil)))) (aCons (f2 gMinus (fVar 3) (fC1 gMax (aCons (fVar 4) (aCons (fC (.int 0)) aNil)))) (aCons (f2 gAdd (f2 gAdd (fVar 2) (fC1 gMin (aCons (fVar 3) (aCons (fC (.int 0)) aNil)))) (fC1 gMin (aCons (f2 gAdd (fC1 gMin (aCons (fVar 1) (aCons (fC (.int 0)) aNil))) (fVar 4)) (aCons (fC (.int 0)) aNil)))) (aCons (f2 gAdd (fVar 1) (fC1 gMax (aCons (fVar 4) (aCons (fC (.int 0)) aNil)))) aNil)))))))
def P_crossed_back : FS := (gSeq (gSet 4 (f2 gMinus (f2 gMinus (f2 gAdd (fVar 0) (fC1 gMin (aCons (fVar 1) (aCons (fC (.int 0)) aNil)))) (fVar 2)) (fC1 gMax (aCons (fVar 3) (aCons (fC (.int 0)) aNil)))))
    (gRet (fTup (aCons (f2 gMinus (f2 gMinus (fVar 0) (fC1 gMax (aCons (fVar 1) (aCons (fC (.int 0)) aNil)))) (fC1 gMax (aCons (f2 gAdd (fC1 gMax (aCons (fVar 3) (aCons (fC (.int 0)) aNil))) (fVar 4)) (aCons (fC (.int 0)) aNil)))) (aCons (f2 gAdd (fVar 3) (fC1 gMin (aCons (fVar 4) (aCons (fC (.int 0)) aNil)))) (aCons (f2 gMinus (f2 gMinus (fVar 2) (fC1 gMin (aCons (fVar 3) (aCons (fC (.int 0)) aNil)))) (fC1 gMin (aCons (f2 gMinus (fC1 gMin (aCons (fVar 1) (aCons (fC (.int 0)) aNil))) (fVar 4)) (aCons (fC (.int 0)) aNil)))) (aCons (f2 gMinus (fVar 1) (fC1 gMin (aCons (fVar 4) (aCons (fC (.int 0)) aNil)))) aNil)))))))
def crL (a b c d : Int) : List Int := [a + upI b + upI (upI d - (a - dnI b - c + upI d)), d - upI (a - dnI b - c + upI d), c + dnI d + dnI (dnI b + (a - dnI b - c + upI d)), b + upI (a - dnI b - c + upI d)]
def crB (a b c d : Int) : List Int := [a - upI b - upI (upI d + (a + dnI b - c - upI d)), d + dnI (a + dnI b - c - upI d), c - dnI d - dnI (dnI b - (a + dnI b - c - upI d)), b - dnI (a + dnI b - c - upI d)]
theorem min0 (x : Int) : (if 0 < x then (0 : Int) else x) = dnI x := by unfold dnI; split <;> split <;> omega
theorem max0 (x : Int) : (if x < 0 then (0 : Int) else x) = upI x := rfl
theorem p_crossed {a b c d : Int} : runD 5 P_crossed [.int a, .int b, .int c, .int d] = some (wd (crL a b c d)) := by
  simp -implicitDefEqProofs [runD_eq, P_crossed, crL, min0, max0]
theorem p_crossed_back {a b c d : Int} : runD 5 P_crossed_back [.int a, .int b, .int c, .int d] = some (wd (crB a b c d)) := by
  simp -implicitDefEqProofs [runD_eq, P_crossed_back, crB, min0, max0]
  refine ⟨?_, ?_, ?_⟩ <;> (generalize dnI b = x; generalize upI d = y; unfold dnI; (repeat' split) <;> omega)
theorem p_plain {s : Int} (hs1 : 2 ≤ s) (hs2 : s ≤ 1000) : runD 1 P_plain [.int s] = some (wd (flatP (plainP s.toNat))) := by
  have w1 : wd (flatP (plainP s.toNat)) = .tuple (List.replicate s.toNat [PyData.int 0, PyData.int 1]).flatten := by rw [rep_plain]
  rw [w1]
  simp -implicitDefEqProofs [runD_eq, P_plain, hs1, hs2]
theorem split_two {α : Type} {xs : List α} {k : Nat} (h : k < xs.length) (h0 : 1 ≤ k) : ∃ A p q B, xs = A ++ p :: q :: B ∧ A.length = k - 1 := by
  refine ⟨xs.take (k - 1), xs[k - 1], xs[k], xs.drop (k + 1), ?_, by rw [List.length_take]; omega⟩
  have e1 := List.take_append_drop (k - 1) xs
  have e2 : xs.drop (k - 1) = xs[k - 1] :: xs.drop (k - 1 + 1) := List.drop_eq_getElem_cons (by omega)
  have e3 : k - 1 + 1 = k := by omega
  rw [e3, List.drop_eq_getElem_cons h] at e2
  rw [e2] at e1
  exact e1.symm
theorem flatP_app (a b : List (Int × Int)) : flatP (a ++ b) = flatP a ++ flatP b := List.flatMap_append
theorem flatP_two (p q : Int × Int) (B : List (Int × Int)) : flatP (p :: q :: B) = p.1 :: p.2 :: q.1 :: q.2 :: flatP B := rfl
theorem p_carried {FC FB : FD} (hc : ∀ a b c d : Int, FC [.int a, .int b, .int c, .int d] = some (wd (crL a b c d))) (hb : ∀ a b c d : Int, FB [.int a, .int b, .int c, .int d] = some (wd (crB a b c d)))
    {ps : List (Int × Int)} {ws : List Int} (hp : ps.length ≤ 1000) (hl : ws.length ≤ 100000) (hw : ∀ w ∈ ws, w ≠ 0 ∧ w.natAbs < ps.length) :
    runD 9 (P_carried FC FB) [wd (flatP ps), wd ws] = some (wd (flatP (carP ws ps))) := by
  simp -implicitDefEqProofs [runD_eq, P_carried, Option.bind_assoc, -List.map_map]
  refine forD_all (fun i ρ => ∃ x3 x4 x5 x6 x7 x8, ρ = [Slot.d (wd (flatP ps)), Slot.d (wd ws), Slot.own ((flatP (carP (ws.take i) ps)).map PyData.int), x3, x4, x5, x6, x7, x8]) ⟨_, _, _, _, _, _, rfl⟩ ?_ ?_
  · rintro i x ρ hi ⟨x3, x4, x5, x6, x7, x8, rfl⟩
    obtain ⟨w, hw1, rfl⟩ := map_get hi
    obtain ⟨h0, h1⟩ := hw w (List.mem_of_getElem? hw1)
    have e : carP (ws.take (i + 1)) ps = lstp w (carP (ws.take i) ps) := by
      rw [List.take_succ, hw1]
      unfold carP
      rw [List.foldl_append]
      rfl
    have hlen := carP_len (ws.take i) ps
    rw [e]
    generalize carP (ws.take i) ps = qs at hlen
    obtain ⟨A, p, q, B, rfl, hA⟩ := split_two (xs := qs) (k := w.natAbs) (by omega) (by omega)
    have hAl := flatP_len A
    have fl : flatP (A ++ p :: q :: B) = flatP A ++ p.1 :: p.2 :: q.1 :: q.2 :: flatP B := by rw [flatP_app, flatP_two]
    have ea : (if w < 0 then -w else w) = ((w.natAbs : Nat) : Int) := by omega
    have eat : (2 * ((w.natAbs : Nat) : Int) - 2) = (((flatP A).length : Nat) : Int) := by omega
    have c2 : CMul 2 ((w.natAbs : Nat) : Int) := .inl ⟨by decide, by decide⟩
    have hBl : (flatP (A ++ p :: q :: B)).length ≤ 2000 := by rw [flatP_len]; omega
    have cutE : cutD ((flatP (A ++ p :: q :: B)).map PyData.int) (some (((flatP A).length : Nat) : Int)) (some ((((flatP A).length : Nat) : Int) + 4)) = [.int p.1, .int p.2, .int q.1, .int q.2] := by
      rw [fl, cut_map, cut_mid (by omega) (by omega)]
      have e1 : (((flatP A).length : Nat) : Int).toNat = (flatP A).length := by omega
      have e2 : ((((flatP A).length : Nat) : Int) + 4).toNat - (flatP A).length = 4 := by omega
      rw [e1, e2, List.drop_left]
      rfl
    have put : ∀ r : List Int, r.length = 4 → ∀ ρ : Rho, ρ[2]? = some (.own ((flatP (A ++ p :: q :: B)).map PyData.int)) → cutS' 2 ρ (r.map PyData.int) (some (((flatP A).length : Nat) : Int)) (some ((((flatP A).length : Nat) : Int) + 4)) = some (.nx (ρ.set 2 (.own ((flatP A ++ r ++ flatP B).map PyData.int)))) := fun r hr ρ hρ => by
      rw [cutS'_own hρ (by omega) (by omega) (by rw [List.length_map, fl, List.length_append]; simp only [List.length_cons]; omega) (by rw [List.length_map, List.length_map, hr]; show _ ≤ _; omega)]
      have e1 : (((flatP A).length : Nat) : Int).toNat = (flatP A).length := by omega
      have e2 : ((((flatP A).length : Nat) : Int) + 4).toNat = (flatP A).length + 4 := by omega
      rw [e1, e2, fl, List.map_append, ← List.length_map (f := PyData.int) (as := flatP A), List.take_left, ← List.drop_drop, List.drop_left]
      simp
    refine goes_at (ρ1 := [Slot.d (wd (flatP ps)), Slot.d (wd ws), Slot.own ((flatP (A ++ p :: q :: B)).map PyData.int), Slot.d (.int w), x4, x5, x6, x7, x8]) rfl ?_
    have gd1 : (A ++ p :: q :: B).getD (w.natAbs - 1) (0, 0) = p := by rw [List.getD_eq_getElem?_getD, ← hA, List.getElem?_append_right (Nat.le_refl _)]; simp
    have gd2 : (A ++ p :: q :: B).getD w.natAbs (0, 0) = q := by rw [List.getD_eq_getElem?_getD, show w.natAbs = A.length + 1 by omega, List.getElem?_append_right (by omega)]; simp
    have st : ∀ u v : Int × Int, ((A ++ p :: q :: B).set (w.natAbs - 1) u).set w.natAbs v = A ++ u :: v :: B := fun u v => by
      rw [show w.natAbs = A.length + 1 by omega, List.set_append_right _ _ (by omega), show A.length + 1 - 1 - A.length = 0 by omega, List.set_append_right _ _ (by omega), show A.length + 1 - A.length = 1 by omega]
      rfl
    by_cases hpos : 0 < w
    · refine goes_one ⟨[Slot.d (wd (flatP ps)), Slot.d (wd ws), Slot.own ((flatP (lstp w (A ++ p :: q :: B))).map PyData.int), Slot.d (.int w), .d (.int (((flatP A).length : Nat) : Int)), .d (.int p.1), .d (.int p.2), .d (.int q.1), .d (.int q.2)], ?_, _, _, _, _, _, _, rfl⟩
      have lr : flatP (lstp w (A ++ p :: q :: B)) = flatP A ++ crL p.1 p.2 q.1 q.2 ++ flatP B := by
        unfold lstp
        dsimp only
        rw [if_pos hpos, gd1, gd2, st, flatP_app, flatP_two]
        simp [crL]
      rw [lr]
      have := put (crL p.1 p.2 q.1 q.2) rfl [Slot.d (wd (flatP ps)), Slot.d (wd ws), Slot.own ((flatP (A ++ p :: q :: B)).map PyData.int), Slot.d (.int w), .d (.int (((flatP A).length : Nat) : Int)), .d (.int p.1), .d (.int p.2), .d (.int q.1), .d (.int q.2)] rfl
      simp -implicitDefEqProofs [ea, eat, c2, cutE, hc, hpos, this, -List.map_append, -List.map_map]
    · refine goes_one ⟨[Slot.d (wd (flatP ps)), Slot.d (wd ws), Slot.own ((flatP (lstp w (A ++ p :: q :: B))).map PyData.int), Slot.d (.int w), .d (.int (((flatP A).length : Nat) : Int)), .d (.int p.1), .d (.int p.2), .d (.int q.1), .d (.int q.2)], ?_, _, _, _, _, _, _, rfl⟩
      have lr : flatP (lstp w (A ++ p :: q :: B)) = flatP A ++ crB p.1 p.2 q.1 q.2 ++ flatP B := by
        unfold lstp
        dsimp only
        rw [if_neg hpos, gd1, gd2, st, flatP_app, flatP_two]
        simp [crB]
      rw [lr]
      have := put (crB p.1 p.2 q.1 q.2) rfl [Slot.d (wd (flatP ps)), Slot.d (wd ws), Slot.own ((flatP (A ++ p :: q :: B)).map PyData.int), Slot.d (.int w), .d (.int (((flatP A).length : Nat) : Int)), .d (.int p.1), .d (.int p.2), .d (.int q.1), .d (.int q.2)] rfl
      simp -implicitDefEqProofs [ea, eat, c2, cutE, hb, hpos, this, -List.map_append, -List.map_map]
  · rintro ρ ⟨x3, x4, x5, x6, x7, x8, rfl⟩
    simp -implicitDefEqProofs [-List.map_map]
theorem p_curve_of {FC FP : FD} {s : Int} {ws : List Int} (hs1 : 2 ≤ s) (hs2 : s ≤ 1000) (hp : FP [.int s] = some (wd (flatP (plainP s.toNat)))) (hc : FC [wd (flatP (plainP s.toNat)), wd ws] = some (wd (flatP (carP ws (plainP s.toNat))))) :
    runD 2 (P_curve_of FC FP) [.int s, wd ws] = some (wd (curveL s.toNat ws)) := by
  simp -implicitDefEqProofs [runD_eq, P_curve_of, hp, hc, curveL, -List.map_map]
theorem every_flat : ∀ ps : List (Int × Int), everyK 2 ((flatP ps).map PyData.int) = ps.map fun p => PyData.int p.1
  | ps => by
    unfold everyK
    have hl := flatP_len ps
    have e : (if 0 < ((flatP ps).map PyData.int).length then (((flatP ps).map PyData.int).length - 1) / 2 + 1 else 0) = ps.length := by
      rw [List.length_map]
      split <;> omega
    rw [e]
    have key : ∀ (qs : List (Int × Int)), (List.range qs.length).filterMap (fun m => ((flatP qs).map PyData.int)[m * 2]?) = qs.map fun p => PyData.int p.1 := fun qs => by
      induction qs with
      | nil => rfl
      | cons p qs ih =>
        rw [List.length_cons, List.range_succ_eq_map, List.filterMap_cons, List.filterMap_map, List.map_cons, ← ih]
        have f2 : ∀ m : Nat, ((flatP (p :: qs)).map PyData.int)[(m + 1) * 2]? = ((flatP qs).map PyData.int)[m * 2]? := fun m => by
          have : (m + 1) * 2 = m * 2 + 1 + 1 := by omega
          rw [this]
          rfl
        show PyData.int p.1 :: _ = PyData.int p.1 :: _
        congr 1
        refine congrArg (fun f => List.filterMap f (List.range qs.length)) ?_
        funext m
        exact f2 m
    exact key ps
theorem p_lean {ps : List (Int × Int)} : runD 2 P_lean [wd (flatP ps)] = some (.int (leanP ps)) := by
  simp -implicitDefEqProofs [runD_eq, P_lean, Option.bind_assoc, -List.map_map, every_flat]
  refine forD_go (fun i ρ => ∃ x, ρ = [Slot.d (wd (flatP ps)), x] ∧ leanP ps = leanP (ps.drop i)) (fun d => d = .int (leanP ps)) ⟨_, rfl, rfl⟩ ?_ ?_ ?_
  · rintro i x ρ hi ⟨x0, rfl, hle⟩
    obtain ⟨p, hp, rfl⟩ := map_get hi
    have hlt : i < ps.length := (List.getElem?_eq_some_iff.mp hp).1
    have hd : ps.drop i = ps[i] :: ps.drop (i + 1) := List.drop_eq_getElem_cons hlt
    have hpi : ps[i] = p := by rw [List.getElem?_eq_getElem hlt] at hp; exact Option.some.inj hp
    rw [hd, hpi] at hle
    have hle' : leanP ps = if p.1 = 0 then leanP (ps.drop (i + 1)) else if 0 < p.1 then 1 else -1 := hle
    by_cases h0 : p.1 = 0
    · rw [if_pos h0] at hle'
      simp -implicitDefEqProofs [h0]
      exact hle'
    · rw [if_neg h0] at hle'
      by_cases h3 : 0 < p.1
      · rw [if_pos h3] at hle'
        simp -implicitDefEqProofs [h0, h3, hle']
      · rw [if_neg h3] at hle'
        simp -implicitDefEqProofs [h0, h3, hle']
  · rintro ρ ⟨x, rfl, hle⟩
    rw [List.length_map, List.drop_length] at hle
    rw [hle]
    simp -implicitDefEqProofs [leanP]
  · rintro d rfl
    simp -implicitDefEqProofs
end DL
set_option maxHeartbeats 1000000
/-! Positive words: what is alike by positive moves alone; Garside's lemma. A letter i : Nat stands for the crossing i + 1. -/
namespace GA
abbrev Far (a b : Nat) : Prop := a + 2 ≤ b ∨ b + 2 ≤ a
abbrev Near (a b : Nat) : Prop := b = a + 1 ∨ a = b + 1
theorem Far.symm {a b : Nat} (h : Far a b) : Far b a := Or.symm h
theorem Near.symm {a b : Nat} (h : Near a b) : Near b a := Or.symm h
inductive P1 : List Nat → List Nat → Prop
  | far (a b : Nat) (v : List Nat) (h : Far a b) : P1 (a :: b :: v) (b :: a :: v)
  | turn (a b : Nat) (v : List Nat) (h : Near a b) : P1 (a :: b :: a :: v) (b :: a :: b :: v)
  | cons (a : Nat) {u v : List Nat} (h : P1 u v) : P1 (a :: u) (a :: v)
theorem P1.symm {u v : List Nat} (h : P1 u v) : P1 v u := by
  induction h with
  | far a b v h => exact .far b a v h.symm
  | turn a b v h => exact .turn b a v h.symm
  | cons a _ ih => exact .cons a ih
inductive Ch : Nat → List Nat → List Nat → Prop
  | nil (u : List Nat) : Ch 0 u u
  | step {n : Nat} {u v w : List Nat} (h : P1 u v) (r : Ch n v w) : Ch (n + 1) u w
def PE (u v : List Nat) : Prop := ∃ n, Ch n u v
theorem PE.refl (u : List Nat) : PE u u := ⟨0, .nil u⟩
theorem PE.one {u v : List Nat} (h : P1 u v) : PE u v := ⟨1, .step h (.nil v)⟩
theorem Ch.trans {n m : Nat} {u v w : List Nat} (h : Ch n u v) (r : Ch m v w) : PE u w := by
  induction h with
  | nil u => exact ⟨m, r⟩
  | step s _ ih => obtain ⟨k, q⟩ := ih r; exact ⟨k + 1, .step s q⟩
theorem PE.trans {u v w : List Nat} (h : PE u v) (r : PE v w) : PE u w := by
  obtain ⟨n, h⟩ := h; obtain ⟨m, r⟩ := r; exact h.trans r
instance : Trans PE PE PE := ⟨PE.trans⟩
theorem PE.symm {u v : List Nat} (h : PE u v) : PE v u := by
  obtain ⟨n, h⟩ := h
  induction h with
  | nil u => exact .refl u
  | step s _ ih => exact ih.trans (.one s.symm)
theorem PE.cons (a : Nat) {u v : List Nat} (h : PE u v) : PE (a :: u) (a :: v) := by
  obtain ⟨n, h⟩ := h
  induction h with
  | nil u => exact .refl _
  | step s _ ih => exact (PE.one (.cons a s)).trans ih
theorem PE.front (x : List Nat) {u v : List Nat} (h : PE u v) : PE (x ++ u) (x ++ v) := by
  induction x with
  | nil => exact h
  | cons a x ih => exact ih.cons a
theorem P1.behind (x : List Nat) {u v : List Nat} (h : P1 u v) : P1 (u ++ x) (v ++ x) := by
  induction h with
  | far a b v h => exact .far a b _ h
  | turn a b v h => exact .turn a b _ h
  | cons a _ ih => exact .cons a ih
theorem PE.behind (x : List Nat) {u v : List Nat} (h : PE u v) : PE (u ++ x) (v ++ x) := by
  obtain ⟨n, h⟩ := h
  induction h with
  | nil u => exact .refl _
  | step s _ ih => exact (PE.one (s.behind x)).trans ih
theorem PE.app {u v x y : List Nat} (h : PE u v) (k : PE x y) : PE (u ++ x) (v ++ y) := (h.behind x).trans (k.front v)
theorem pf {a b : Nat} (h : Far a b) (v : List Nat) : PE (a :: b :: v) (b :: a :: v) := .one (.far a b v h)
theorem pt {a b : Nat} (h : Near a b) (v : List Nat) : PE (a :: b :: a :: v) (b :: a :: b :: v) := .one (.turn a b v h)
theorem P1.len {u v : List Nat} (h : P1 u v) : u.length = v.length := by
  induction h with
  | far => rfl
  | turn => rfl
  | cons a _ ih => rw [List.length_cons, List.length_cons, ih]
theorem PE.len {u v : List Nat} (h : PE u v) : u.length = v.length := by
  obtain ⟨n, h⟩ := h
  induction h with
  | nil u => rfl
  | step s _ ih => rw [s.len, ih]
theorem P1.mem {u v : List Nat} (h : P1 u v) (x : Nat) : x ∈ u ↔ x ∈ v := by
  induction h with
  | far a b v h => simp only [List.mem_cons]; constructor <;> (rintro (h | h | h) <;> simp [h])
  | turn a b v h => simp only [List.mem_cons]; constructor <;> (rintro (h | h | h | h) <;> simp [h])
  | cons a _ ih => rw [List.mem_cons, List.mem_cons, ih]
theorem PE.mem {u v : List Nat} (h : PE u v) (x : Nat) : x ∈ u ↔ x ∈ v := by
  obtain ⟨n, h⟩ := h
  induction h with
  | nil u => exact Iff.rfl
  | step s _ ih => exact (s.mem x).trans ih
theorem P1.snoc_rev {u v : List Nat} (h : P1 u v) : PE u.reverse v.reverse := by
  induction h with
  | far a b v h =>
    simp only [List.reverse_cons, List.append_assoc, List.cons_append, List.nil_append]
    exact (pf h.symm []).front _
  | turn a b v h =>
    simp only [List.reverse_cons, List.append_assoc, List.cons_append, List.nil_append]
    exact (pt h []).front _
  | cons a _ ih =>
    rw [List.reverse_cons, List.reverse_cons]
    exact ih.behind _
theorem PE.rev {u v : List Nat} (h : PE u v) : PE u.reverse v.reverse := by
  obtain ⟨n, h⟩ := h
  induction h with
  | nil u => exact .refl _
  | step s _ ih => exact s.snoc_rev.trans ih
/-- what two words that begin with a and b, and are alike, have behind these letters -/
def R (a b : Nat) (X Y : List Nat) : Prop := (a = b ∧ PE X Y) ∨ (Far a b ∧ ∃ Z, PE X (b :: Z) ∧ PE Y (a :: Z)) ∨ (Near a b ∧ ∃ Z, PE X (b :: a :: Z) ∧ PE Y (a :: b :: Z))
theorem R.symm {a b : Nat} {X Y : List Nat} (h : R a b X Y) : R b a Y X := by
  rcases h with ⟨e, h⟩ | ⟨f, Z, h1, h2⟩ | ⟨f, Z, h1, h2⟩
  · exact .inl ⟨e.symm, h.symm⟩
  · exact .inr (.inl ⟨f.symm, Z, h2, h1⟩)
  · exact .inr (.inr ⟨f.symm, Z, h2, h1⟩)
theorem R.lift {a b : Nat} {X Y X' Y' : List Nat} (h : R a b X Y) (hx : PE X' X) (hy : PE Y' Y) : R a b X' Y' := by
  rcases h with ⟨e, h⟩ | ⟨f, Z, h1, h2⟩ | ⟨f, Z, h1, h2⟩
  · exact .inl ⟨e, hx.trans (h.trans hy.symm)⟩
  · exact .inr (.inl ⟨f, Z, hx.trans h1, hy.trans h2⟩)
  · exact .inr (.inr ⟨f, Z, hx.trans h1, hy.trans h2⟩)
/-- the lemma for shorter words -/
def Hs (l : Nat) : Prop := ∀ (a b : Nat) (X Y : List Nat), X.length < l → PE (a :: X) (b :: Y) → R a b X Y
theorem Hs.far {l : Nat} (hs : Hs l) {a b : Nat} {X Y : List Nat} (f : Far a b) (hl : X.length < l) (h : PE (a :: X) (b :: Y)) : ∃ Z, PE X (b :: Z) ∧ PE Y (a :: Z) := by
  rcases hs a b X Y hl h with ⟨e, _⟩ | ⟨_, q⟩ | ⟨n, _⟩
  · omega
  · exact q
  · omega
theorem Hs.near {l : Nat} (hs : Hs l) {a b : Nat} {X Y : List Nat} (f : Near a b) (hl : X.length < l) (h : PE (a :: X) (b :: Y)) : ∃ Z, PE X (b :: a :: Z) ∧ PE Y (a :: b :: Z) := by
  rcases hs a b X Y hl h with ⟨e, _⟩ | ⟨n, _⟩ | ⟨_, q⟩
  · omega
  · omega
  · exact q
theorem Hs.same {l : Nat} (hs : Hs l) {a : Nat} {X Y : List Nat} (hl : X.length < l) (h : PE (a :: X) (a :: Y)) : PE X Y := by
  rcases hs a a X Y hl h with ⟨_, q⟩ | ⟨n, _⟩ | ⟨n, _⟩
  · exact q
  · omega
  · omega
/-- a and c far, c and b near -/
theorem comb_fn {l : Nat} (hs : Hs l) {a c b : Nat} {X W Y : List Nat} (hl : W.length ≤ l) (f1 : Far a c) (f2 : Near c b) (h1 : ∃ U, PE X (c :: U) ∧ PE W (a :: U)) (h2 : ∃ V, PE W (b :: c :: V) ∧ PE Y (c :: b :: V)) : R a b X Y := by
  obtain ⟨U, x, w⟩ := h1
  obtain ⟨V, w', y⟩ := h2
  have e : PE (a :: U) (b :: c :: V) := w.symm.trans w'
  have lu : U.length < l := by have := w.len; rw [List.length_cons] at this; omega
  rcases (show Far a b ∨ Near a b by omega) with f | f
  · obtain ⟨Z1, u1, v1⟩ := hs.far f lu e
    have lv : V.length < l := by have := w'.len; simp only [List.length_cons] at this; omega
    obtain ⟨Z2, v2, z2⟩ := hs.far f1.symm lv v1
    refine .inr (.inl ⟨f, c :: b :: Z2, ?_, ?_⟩)
    · calc PE X (c :: U) := x
        PE _ (c :: b :: Z1) := u1.cons c
        PE _ (c :: b :: c :: Z2) := (z2.cons b).cons c
        PE _ (b :: c :: b :: Z2) := pt f2 _
    · calc PE Y (c :: b :: V) := y
        PE _ (c :: b :: a :: Z2) := (v2.cons b).cons c
        PE _ (c :: a :: b :: Z2) := (pf f.symm _).cons c
        PE _ (a :: c :: b :: Z2) := pf f1.symm _
  · obtain ⟨Z1, u1, v1⟩ := hs.near f lu e
    have lv : V.length < l := by have := w'.len; simp only [List.length_cons] at this; omega
    obtain ⟨Z2, v2, z2⟩ := hs.far f1.symm lv v1
    have lz : Z1.length < l := by have := u1.len; simp only [List.length_cons] at this; omega
    obtain ⟨Z3, z3, z4⟩ := hs.near f2.symm (by have := z2.len; simp only [List.length_cons] at this; have := v1.len; simp only [List.length_cons] at this; omega) z2
    refine .inr (.inr ⟨f, c :: b :: a :: Z3, ?_, ?_⟩)
    · calc PE X (c :: U) := x
        PE _ (c :: b :: a :: Z1) := u1.cons c
        PE _ (c :: b :: a :: c :: b :: Z3) := ((z3.cons a).cons b).cons c
        PE _ (c :: b :: c :: a :: b :: Z3) := ((pf f1 _).cons b).cons c
        PE _ (b :: c :: b :: a :: b :: Z3) := pt f2 _
        PE _ (b :: c :: a :: b :: a :: Z3) := ((pt f.symm _).cons c).cons b
        PE _ (b :: a :: c :: b :: a :: Z3) := (pf f1.symm _).cons b
    · calc PE Y (c :: b :: V) := y
        PE _ (c :: b :: a :: Z2) := (v2.cons b).cons c
        PE _ (c :: b :: a :: b :: c :: Z3) := ((z4.cons a).cons b).cons c
        PE _ (c :: a :: b :: a :: c :: Z3) := (pt f.symm _).cons c
        PE _ (a :: c :: b :: a :: c :: Z3) := pf f1.symm _
        PE _ (a :: c :: b :: c :: a :: Z3) := (((pf f1 _).cons b).cons c).cons a
        PE _ (a :: b :: c :: b :: a :: Z3) := (pt f2 _).cons a
theorem comb_ff {l : Nat} (hs : Hs l) {a c b : Nat} {X W Y : List Nat} (hl : W.length ≤ l) (f1 : Far a c) (f2 : Far c b) (h1 : ∃ U, PE X (c :: U) ∧ PE W (a :: U)) (h2 : ∃ V, PE W (b :: V) ∧ PE Y (c :: V)) : R a b X Y := by
  obtain ⟨U, x, w⟩ := h1
  obtain ⟨V, w', y⟩ := h2
  have e : PE (a :: U) (b :: V) := w.symm.trans w'
  have lu : U.length < l := by have := w.len; rw [List.length_cons] at this; omega
  rcases (show a = b ∨ Far a b ∨ Near a b by omega) with f | f | f
  · subst f
    exact .inl ⟨rfl, x.trans (((hs.same lu e).cons c).trans y.symm)⟩
  · obtain ⟨Z, u1, v1⟩ := hs.far f lu e
    refine .inr (.inl ⟨f, c :: Z, ?_, ?_⟩)
    · calc PE X (c :: U) := x
        PE _ (c :: b :: Z) := u1.cons c
        PE _ (b :: c :: Z) := pf f2 _
    · calc PE Y (c :: V) := y
        PE _ (c :: a :: Z) := v1.cons c
        PE _ (a :: c :: Z) := pf f1.symm _
  · obtain ⟨Z, u1, v1⟩ := hs.near f lu e
    refine .inr (.inr ⟨f, c :: Z, ?_, ?_⟩)
    · calc PE X (c :: U) := x
        PE _ (c :: b :: a :: Z) := u1.cons c
        PE _ (b :: c :: a :: Z) := pf f2 _
        PE _ (b :: a :: c :: Z) := (pf f1.symm _).cons b
    · calc PE Y (c :: V) := y
        PE _ (c :: a :: b :: Z) := v1.cons c
        PE _ (a :: c :: b :: Z) := pf f1.symm _
        PE _ (a :: b :: c :: Z) := (pf f2 _).cons a
theorem comb_nn {l : Nat} (hs : Hs l) {a c b : Nat} {X W Y : List Nat} (hl : W.length ≤ l) (f1 : Near a c) (f2 : Near c b) (h1 : ∃ U, PE X (c :: a :: U) ∧ PE W (a :: c :: U)) (h2 : ∃ V, PE W (b :: c :: V) ∧ PE Y (c :: b :: V)) : R a b X Y := by
  obtain ⟨U, x, w⟩ := h1
  obtain ⟨V, w', y⟩ := h2
  have e : PE (a :: c :: U) (b :: c :: V) := w.symm.trans w'
  have lw := w.len
  have lw' := w'.len
  simp only [List.length_cons] at lw lw'
  rcases (show a = b ∨ Far a b by omega) with f | f
  · subst f
    have q : PE (c :: U) (c :: V) := hs.same (by simp only [List.length_cons]; omega) e
    have q2 : PE U V := hs.same (by omega) q
    exact .inl ⟨rfl, x.trans (((q2.cons a).cons c).trans y.symm)⟩
  · obtain ⟨Z1, u1, v1⟩ := hs.far f (by simp only [List.length_cons]; omega) e
    obtain ⟨Z2, u2, z2⟩ := hs.near f2 (by omega) u1
    obtain ⟨Z3, v3, z3⟩ := hs.near f1.symm (by omega) v1
    have l2 := u2.len
    simp only [List.length_cons] at l2
    have q : PE (b :: Z2) (a :: Z3) := hs.same (by simp only [List.length_cons]; omega) (z2.symm.trans z3)
    obtain ⟨Z4, p1, p2⟩ := hs.far f.symm (by omega) q
    refine .inr (.inl ⟨f, c :: b :: a :: c :: Z4, ?_, ?_⟩)
    · calc PE X (c :: a :: U) := x
        PE _ (c :: a :: b :: c :: Z2) := (u2.cons a).cons c
        PE _ (c :: a :: b :: c :: a :: Z4) := ((((p1.cons c).cons b).cons a).cons c)
        PE _ (c :: b :: a :: c :: a :: Z4) := (pf f _).cons c
        PE _ (c :: b :: c :: a :: c :: Z4) := ((pt f1 _).cons b).cons c
        PE _ (b :: c :: b :: a :: c :: Z4) := pt f2 _
    · calc PE Y (c :: b :: V) := y
        PE _ (c :: b :: a :: c :: Z3) := (v3.cons b).cons c
        PE _ (c :: b :: a :: c :: b :: Z4) := ((((p2.cons c).cons a).cons b).cons c)
        PE _ (c :: a :: b :: c :: b :: Z4) := (pf f.symm _).cons c
        PE _ (c :: a :: c :: b :: c :: Z4) := ((pt f2.symm _).cons a).cons c
        PE _ (a :: c :: a :: b :: c :: Z4) := pt f1.symm _
        PE _ (a :: c :: b :: a :: c :: Z4) := ((pf f _).cons c).cons a
theorem comb {l : Nat} (hs : Hs l) {a c b : Nat} {X W Y : List Nat} (hl : W.length ≤ l) (h1 : R a c X W) (h2 : R c b W Y) : R a b X Y := by
  rcases h1 with ⟨rfl, h1⟩ | h1
  · exact h2.lift h1 (.refl _)
  rcases h2 with ⟨rfl, h2⟩ | h2
  · exact (show R a c X W from .inr h1).lift (.refl _) h2.symm
  rcases h1 with ⟨f1, h1⟩ | ⟨f1, h1⟩ <;> rcases h2 with ⟨f2, h2⟩ | ⟨f2, h2⟩
  · exact comb_ff hs hl f1 f2 h1 h2
  · exact comb_fn hs hl f1 f2 h1 h2
  · refine (comb_fn hs hl f2.symm f1.symm ?_ ?_).symm
    · obtain ⟨V, p, q⟩ := h2; exact ⟨V, q, p⟩
    · obtain ⟨V, p, q⟩ := h1; exact ⟨V, q, p⟩
  · exact comb_nn hs hl f1 f2 h1 h2
theorem R.of_step {a b : Nat} {X Y : List Nat} (h : P1 (a :: X) (b :: Y)) : R a b X Y := by
  cases h with
  | far _ _ v f => exact .inr (.inl ⟨f, v, .refl _, .refl _⟩)
  | turn _ _ v f => exact .inr (.inr ⟨f, v, .refl _, .refl _⟩)
  | cons _ h => exact .inl ⟨rfl, .one h⟩
theorem P1.ne {u v : List Nat} (h : P1 u v) : v ≠ [] := by
  cases h <;> simp
theorem garside : ∀ l, Hs l := by
  intro l
  induction l with
  | zero => intro a b X Y h; omega
  | succ l ih =>
    have key : ∀ (t : Nat) (u w : List Nat), Ch t u w → ∀ (a b : Nat) (X Y : List Nat), u = a :: X → w = b :: Y → X.length ≤ l → R a b X Y := by
      intro t u w h
      induction h with
      | nil u => intro a b X Y e1 e2 _; subst e1; cases e2; exact .inl ⟨rfl, .refl _⟩
      | @step n u v w s r ih2 =>
        intro a b X Y e1 e2 hl
        subst e1 e2
        cases v with
        | nil => exact absurd rfl s.ne
        | cons c W =>
          have e := s.len
          simp only [List.length_cons] at e
          exact comb ih (by omega) (.of_step s) (ih2 c b W Y rfl rfl (by omega))
    intro a b X Y hl h
    obtain ⟨t, h⟩ := h
    exact key t _ _ h a b X Y rfl rfl (by omega)
theorem of_front {a b : Nat} {X Y : List Nat} (h : PE (a :: X) (b :: Y)) : R a b X Y := garside (X.length + 1) a b X Y (Nat.lt_succ_self _) h
theorem cancel1 {a : Nat} {X Y : List Nat} (h : PE (a :: X) (a :: Y)) : PE X Y := (garside (X.length + 1)).same (Nat.lt_succ_self _) h
theorem cancel {x X Y : List Nat} (h : PE (x ++ X) (x ++ Y)) : PE X Y := by
  induction x with
  | nil => exact h
  | cons a x ih => exact ih (cancel1 h)
theorem rcancel {x X Y : List Nat} (h : PE (X ++ x) (Y ++ x)) : PE X Y := by
  have q := h.rev
  rw [List.reverse_append, List.reverse_append] at q
  have q2 := (cancel q).rev
  rwa [List.reverse_reverse, List.reverse_reverse] at q2
end GA
/-! The whole turn of m letters; each word as a positive one with whole turns behind it; positive words that are alike are so by positive moves. -/
namespace GA
/-- i, i+1, .., i+n-1 -/
def run (i n : Nat) : List Nat := List.range' i n
theorem run_app (i a b : Nat) : run i (a + b) = run i a ++ run (i + a) b := by
  unfold run
  rw [← List.range'_append_1]
theorem run_cons (i n : Nat) : run i (n + 1) = i :: run (i + 1) n := by unfold run; rw [List.range'_succ]
theorem run_mem {i n x : Nat} : x ∈ run i n ↔ i ≤ x ∧ x < i + n := by unfold run; rw [List.mem_range'_1]
theorem past {a : Nat} : ∀ (u : List Nat), (∀ x ∈ u, Far a x) → ∀ v, PE (u ++ a :: v) (a :: u ++ v)
  | [], _, v => .refl _
  | x :: u, h, v => by
    have ih := past u (fun y hy => h y (List.mem_cons_of_mem _ hy)) v
    exact (ih.cons x).trans (pf (h x List.mem_cons_self).symm _)
/-- the run through m letters -/
theorem dl_step {m i : Nat} (h : i + 1 < m) (v : List Nat) : PE (run 0 m ++ i :: v) ((i + 1) :: run 0 m ++ v) := by
  have e : run 0 m = run 0 i ++ i :: (i + 1) :: run (i + 2) (m - i - 2) := by
    have q := run_app 0 i (m - i)
    rw [show i + (m - i) = m by omega, Nat.zero_add] at q
    rw [q]
    have r := run_app i 2 (m - i - 2)
    rw [show 2 + (m - i - 2) = m - i by omega] at r
    rw [r]
    rfl
  rw [e]
  simp only [List.append_assoc, List.cons_append]
  calc PE (run 0 i ++ i :: (i + 1) :: (run (i + 2) (m - i - 2) ++ i :: v)) (run 0 i ++ i :: (i + 1) :: (i :: run (i + 2) (m - i - 2) ++ v)) :=
        (((past _ (fun x hx => by have := run_mem.mp hx; omega) v).cons (i + 1)).cons i).front _
    PE _ (run 0 i ++ (i + 1) :: i :: (i + 1) :: (run (i + 2) (m - i - 2) ++ v)) := (pt (.inl rfl) _).front _
    PE _ ((i + 1) :: (run 0 i ++ i :: (i + 1) :: (run (i + 2) (m - i - 2) ++ v))) := past _ (fun x hx => by have := run_mem.mp hx; omega) _
def pw (u : List Nat) : Nat → List Nat
  | 0 => []
  | n + 1 => u ++ pw u n
theorem pw_add (u : List Nat) (a b : Nat) : pw u (a + b) = pw u a ++ pw u b := by
  induction a with
  | zero => rw [Nat.zero_add]; rfl
  | succ a ih => rw [Nat.succ_add]; show u ++ pw u (a + b) = u ++ pw u a ++ pw u b; rw [ih, List.append_assoc]
theorem pw_one (u : List Nat) : pw u 1 = u := List.append_nil _
theorem pw_succ' (u : List Nat) (n : Nat) : pw u (n + 1) = pw u n ++ u := by rw [pw_add, pw_one]
theorem dl_steps {m : Nat} : ∀ {i k : Nat}, i + k < m → ∀ v, PE (pw (run 0 m) k ++ i :: v) ((i + k) :: pw (run 0 m) k ++ v)
  | i, 0, _, v => .refl _
  | i, k + 1, h, v => by
    have ih := dl_steps (m := m) (i := i) (k := k) (by omega) v
    have s := dl_step (m := m) (i := i + k) (by omega) (pw (run 0 m) k ++ v)
    have e : pw (run 0 m) (k + 1) = run 0 m ++ pw (run 0 m) k := rfl
    rw [e, List.append_assoc]
    refine (ih.front _).trans ?_
    simpa [List.append_assoc, Nat.add_assoc] using s
theorem dl_runs {m : Nat} : ∀ {n i : Nat}, i + n < m → ∀ v, PE (run 0 m ++ run i n ++ v) (run (i + 1) n ++ run 0 m ++ v)
  | 0, i, _, v => by rw [show run i 0 = [] from rfl, show run (i + 1) 0 = [] from rfl, List.append_nil, List.nil_append]; exact .refl _
  | n + 1, i, h, v => by
    have s := dl_step (m := m) (i := i) (by omega) (run (i + 1) n ++ v)
    have ih := dl_runs (m := m) (n := n) (i := i + 1) (by omega) v
    rw [run_cons, run_cons]
    simp only [List.append_assoc, List.cons_append] at s ih ⊢
    exact s.trans (ih.cons _)
/-- the last letter behind two runs -/
theorem dl_wrap {m : Nat} (hm : 1 ≤ m) (v : List Nat) : PE (pw (run 0 m) 2 ++ (m - 1) :: v) (0 :: pw (run 0 m) 2 ++ v) := by
  have e1 : run 0 m = run 0 (m - 1) ++ [m - 1] := by
    have q := run_app 0 (m - 1) 1
    rw [show m - 1 + 1 = m by omega, Nat.zero_add] at q
    rw [q]
    rfl
  have e2 : run 0 m = 0 :: run 1 (m - 1) := by
    have q := run_cons 0 (m - 1)
    rw [show m - 1 + 1 = m by omega] at q
    exact q
  have s := dl_runs (m := m) (n := m - 1) (i := 0) (by omega)
  have e0 : pw (run 0 m) 2 = run 0 m ++ run 0 m := by show run 0 m ++ (run 0 m ++ []) = _; rw [List.append_nil]
  have l : PE (run 0 m ++ run 0 m) (run 1 (m - 1) ++ run 0 m ++ [m - 1]) := by
    have := s [m - 1]
    rw [List.append_assoc, ← e1] at this
    exact this
  rw [e0]
  calc PE (run 0 m ++ run 0 m ++ (m - 1) :: v) (run 0 m ++ run 0 m ++ (m - 1) :: v) := .refl _
    PE _ (0 :: (run 1 (m - 1) ++ run 0 m ++ [m - 1]) ++ v) := by
      have : run 0 m ++ run 0 m ++ (m - 1) :: v = 0 :: (run 1 (m - 1) ++ run 0 m ++ [m - 1]) ++ v := by
        conv => lhs; rw [List.append_assoc]; lhs; rw [e2]
        simp
      rw [this]
      exact .refl _
    PE _ (0 :: (run 0 m ++ run 0 m) ++ v) := (l.symm.cons 0).behind v
/-- the whole turn -/
def dd (m : Nat) : List Nat := pw (run 0 m) (m + 1)
theorem dd_central {m i : Nat} (h : i < m) (v : List Nat) : PE (dd m ++ i :: v) (i :: dd m ++ v) := by
  have e : dd m = pw (run 0 m) i ++ pw (run 0 m) 2 ++ pw (run 0 m) (m - 1 - i) := by
    unfold dd
    rw [← pw_add, ← pw_add]
    congr 1
    omega
  rw [e]
  simp only [List.append_assoc]
  have a := dl_steps (m := m) (i := i) (k := m - 1 - i) (by omega) v
  have b := dl_wrap (m := m) (by omega) (pw (run 0 m) (m - 1 - i) ++ v)
  have c := dl_steps (m := m) (i := 0) (k := i) (by omega) (pw (run 0 m) 2 ++ (pw (run 0 m) (m - 1 - i) ++ v))
  rw [show i + (m - 1 - i) = m - 1 by omega] at a
  rw [Nat.zero_add] at c
  exact ((a.front _).front _).trans ((b.front _).trans (by simpa using c))
theorem dd_past {m : Nat} : ∀ (u : List Nat), (∀ x ∈ u, x < m) → ∀ v, PE (dd m ++ u ++ v) (u ++ dd m ++ v)
  | [], _, v => by rw [List.append_nil, List.nil_append]; exact .refl _
  | x :: u, h, v => by
    have ih := dd_past u (fun y hy => h y (List.mem_cons_of_mem _ hy)) v
    have c := dd_central (h x List.mem_cons_self) (u ++ v)
    simp only [List.append_assoc, List.cons_append] at ih c ⊢
    exact c.trans (ih.cons x)
/-- what makes the whole turn behind i -/
def cc (m i : Nat) : List Nat := pw (run 0 m) i ++ run 1 (m - 1) ++ pw (run 0 m) (m - i)
theorem cc_right {m i : Nat} (h : i < m) : PE (i :: cc m i) (dd m) := by
  have a := dl_steps (m := m) (i := 0) (k := i) (by omega) (run 1 (m - 1) ++ pw (run 0 m) (m - i))
  rw [Nat.zero_add] at a
  have e2 : run 0 m = 0 :: run 1 (m - 1) := by
    have q := run_cons 0 (m - 1)
    rw [show m - 1 + 1 = m by omega] at q
    exact q
  have e : dd m = pw (run 0 m) i ++ 0 :: (run 1 (m - 1) ++ pw (run 0 m) (m - i)) := by
    unfold dd
    rw [show m + 1 = i + (1 + (m - i)) by omega, pw_add, pw_add, pw_one]
    congr 1
    conv => lhs; lhs; rw [e2]
    rfl
  rw [e]
  unfold cc
  simp only [List.append_assoc, List.cons_append] at a ⊢
  exact a.symm
theorem cc_left {m i : Nat} (h : i < m) : PE (cc m i ++ [i]) (dd m) := by
  refine cancel1 (a := i) ?_
  calc PE (i :: (cc m i ++ [i])) (dd m ++ [i]) := (cc_right h).behind [i]
    PE _ (i :: dd m) := by have := dd_central h []; rwa [List.append_nil] at this
theorem run_lt {m : Nat} : ∀ x ∈ run 0 m, x < m := fun x hx => by have := run_mem.mp hx; omega
theorem pw_lt {m : Nat} {u : List Nat} (h : ∀ x ∈ u, x < m) : ∀ k, ∀ x ∈ pw u k, x < m
  | 0, x, hx => by cases hx
  | k + 1, x, hx => by
    rcases List.mem_append.mp hx with q | q
    · exact h x q
    · exact pw_lt h k x q
theorem dd_lt {m : Nat} : ∀ x ∈ dd m, x < m := pw_lt run_lt _
theorem cc_lt {m i : Nat} (h : i < m) : ∀ x ∈ cc m i, x < m := fun x hx => by
  unfold cc at hx
  rcases List.mem_append.mp hx with q | q
  · rcases List.mem_append.mp q with q | q
    · exact pw_lt run_lt _ x q
    · have := run_mem.mp q; omega
  · exact pw_lt run_lt _ x q
/-! ### words -/
abbrev Lt := Nat × Bool
inductive M1 : List Lt → List Lt → Prop
  | out (i : Nat) (s : Bool) : M1 [(i, s), (i, !s)] []
  | far (i j : Nat) (s t : Bool) (h : Far i j) : M1 [(i, s), (j, t)] [(j, t), (i, s)]
  | turn (i j : Nat) (s : Bool) (h : Near i j) : M1 [(i, s), (j, s), (i, s)] [(j, s), (i, s), (j, s)]
inductive Al : List Lt → List Lt → Prop
  | refl (u : List Lt) : Al u u
  | symm {u v : List Lt} (h : Al u v) : Al v u
  | trans {u v w : List Lt} (h : Al u v) (r : Al v w) : Al u w
  | mv (x y : List Lt) {o n : List Lt} (h : M1 o n) : Al (x ++ o ++ y) (x ++ n ++ y)
theorem Al.ctx {u v : List Lt} (x y : List Lt) (h : Al u v) : Al (x ++ u ++ y) (x ++ v ++ y) := by
  induction h with
  | refl u => exact .refl _
  | symm _ ih => exact ih.symm
  | trans _ _ i1 i2 => exact i1.trans i2
  | @mv a b o n h =>
    have q := Al.mv (x ++ a) (b ++ y) h
    simpa [List.append_assoc] using q
/-- the positive word of a word, and the whole turns that it has too many -/
def phi (m : Nat) : List Lt → List Nat
  | [] => []
  | (i, true) :: u => i :: phi m u
  | (i, false) :: u => cc m i ++ phi m u
def neg : List Lt → Nat
  | [] => 0
  | (_, true) :: u => neg u
  | (_, false) :: u => neg u + 1
theorem phi_app (m : Nat) : ∀ u v : List Lt, phi m (u ++ v) = phi m u ++ phi m v
  | [], v => rfl
  | (i, true) :: u, v => by show i :: phi m (u ++ v) = _; rw [phi_app]; rfl
  | (i, false) :: u, v => by show cc m i ++ phi m (u ++ v) = cc m i ++ phi m u ++ phi m v; rw [phi_app, List.append_assoc]
theorem neg_app : ∀ u v : List Lt, neg (u ++ v) = neg u + neg v
  | [], v => (Nat.zero_add _).symm
  | (i, true) :: u, v => neg_app u v
  | (i, false) :: u, v => by show neg (u ++ v) + 1 = neg u + 1 + neg v; rw [neg_app]; omega
theorem phi_lt {m : Nat} : ∀ {u : List Lt}, (∀ x ∈ u, x.1 < m) → ∀ x ∈ phi m u, x < m
  | [], _, x, hx => by cases hx
  | (i, true) :: u, h, x, hx => by
    rcases List.mem_cons.mp hx with rfl | hx
    · exact h _ List.mem_cons_self
    · exact phi_lt (fun y hy => h y (List.mem_cons_of_mem _ hy)) x hx
  | (i, false) :: u, h, x, hx => by
    rcases List.mem_append.mp hx with hx | hx
    · exact cc_lt (h (i, false) List.mem_cons_self) x hx
    · exact phi_lt (fun y hy => h y (List.mem_cons_of_mem _ hy)) x hx
theorem ddk_past {m : Nat} {u : List Nat} (h : ∀ x ∈ u, x < m) : ∀ (k : Nat) (v : List Nat), PE (pw (dd m) k ++ u ++ v) (u ++ pw (dd m) k ++ v)
  | 0, v => by rw [show pw (dd m) 0 = [] from rfl, List.append_nil, List.nil_append]; exact .refl _
  | k + 1, v => by
    have ih := ddk_past h k v
    have c := dd_past u h (pw (dd m) k ++ v)
    show PE (dd m ++ pw (dd m) k ++ u ++ v) (u ++ (dd m ++ pw (dd m) k) ++ v)
    simp only [List.append_assoc] at ih c ⊢
    exact (ih.front _).trans c
/-- a move, in positive words -/
theorem phi_mv {m : Nat} {o n : List Lt} (h : M1 o n) (ho : ∀ x ∈ o, x.1 < m) : PE (phi m o ++ pw (dd m) (neg n)) (phi m n ++ pw (dd m) (neg o)) := by
  have cp : ∀ i j : Nat, i < m → j < m → Far i j → PE (i :: cc m j) (cc m j ++ [i]) := fun i j hi hj f => by
    refine cancel1 (a := j) ?_
    calc PE (j :: i :: cc m j) (i :: j :: cc m j) := pf f.symm _
      PE _ (i :: dd m) := (cc_right hj).cons i
      PE _ (dd m ++ [i]) := by have := (dd_central hi []).symm; rwa [List.append_nil] at this
      PE _ (j :: (cc m j ++ [i])) := (cc_right hj).symm.behind [i]
  have l0 : ∀ u : List Nat, u ++ pw (dd m) 0 = u := fun u => List.append_nil u
  cases h with
  | out i s =>
    have hi : i < m := ho _ List.mem_cons_self
    cases s with
    | true =>
      show PE (i :: (cc m i ++ []) ++ []) ([] ++ (dd m ++ []))
      simp only [List.append_nil, List.nil_append]
      exact cc_right hi
    | false =>
      show PE (cc m i ++ [i] ++ []) ([] ++ (dd m ++ []))
      simp only [List.append_nil, List.nil_append]
      exact cc_left hi
  | far i j s t f =>
    have hi : i < m := ho _ List.mem_cons_self
    have hj : j < m := ho (j, t) (List.mem_cons_of_mem _ List.mem_cons_self)
    cases s <;> cases t
    · refine PE.app ?_ (.refl _)
      show PE (cc m i ++ (cc m j ++ [])) (cc m j ++ (cc m i ++ []))
      rw [List.append_nil, List.append_nil]
      refine cancel1 (a := i) ?_
      calc PE (i :: (cc m i ++ cc m j)) (dd m ++ cc m j) := (cc_right hi).behind _
        PE _ (cc m j ++ dd m) := by have := dd_past (cc m j) (cc_lt hj) []; simpa using this
        PE _ (cc m j ++ (i :: cc m i)) := (cc_right hi).symm.front _
        PE _ (i :: (cc m j ++ cc m i)) := by
          have := (cp i j hi hj f).symm.behind (cc m i)
          simpa using this
    · refine PE.app ?_ (.refl _)
      show PE (cc m i ++ [j]) (j :: (cc m i ++ []))
      rw [List.append_nil]
      exact (cp j i hj hi f.symm).symm
    · refine PE.app ?_ (.refl _)
      show PE (i :: (cc m j ++ [])) (cc m j ++ [i])
      rw [List.append_nil]
      exact cp i j hi hj f
    · refine PE.app ?_ (.refl _)
      exact pf f _
  | turn i j s f =>
    have hi : i < m := ho _ List.mem_cons_self
    have hj : j < m := ho (j, s) (List.mem_cons_of_mem _ List.mem_cons_self)
    cases s
    · refine PE.app ?_ (.refl _)
      show PE (cc m i ++ (cc m j ++ (cc m i ++ []))) (cc m j ++ (cc m i ++ (cc m j ++ [])))
      rw [List.append_nil, List.append_nil]
      have three : ∀ a b : Nat, a < m → b < m → PE (cc m a ++ (cc m b ++ cc m a) ++ [a, b, a]) (pw (dd m) 3) := fun a b ha hb => by
        calc PE (cc m a ++ (cc m b ++ cc m a) ++ [a, b, a]) (cc m a ++ (cc m b ++ ((cc m a ++ [a]) ++ [b, a]))) := by
              have : cc m a ++ (cc m b ++ cc m a) ++ [a, b, a] = cc m a ++ (cc m b ++ ((cc m a ++ [a]) ++ [b, a])) := by simp
              rw [this]; exact .refl _
          PE _ (cc m a ++ (cc m b ++ (dd m ++ [b, a]))) := (((cc_left ha).behind _).front _).front _
          PE _ (cc m a ++ (cc m b ++ ([b] ++ dd m ++ [a]))) := by
            have := (dd_past [b] (by simpa using hb) [a])
            rw [List.append_assoc] at this
            exact (this.front _).front _
          PE _ (cc m a ++ (dd m ++ (dd m ++ [a]))) := by
            have := ((cc_left hb).behind (dd m ++ [a])).front (cc m a)
            simpa using this
          PE _ (cc m a ++ (dd m ++ ([a] ++ dd m))) := by
            have := (dd_past [a] (by simpa using ha) [])
            rw [List.append_nil, List.append_nil] at this
            exact (this.front _).front _
          PE _ (cc m a ++ ([a] ++ dd m ++ dd m)) := by
            have := (dd_past [a] (by simpa using ha) (dd m)).front (cc m a)
            simpa using this
          PE _ (dd m ++ (dd m ++ dd m)) := by
            have := (cc_left ha).behind (dd m ++ dd m)
            simpa using this
          PE _ (pw (dd m) 3) := by
            show PE _ (dd m ++ (dd m ++ (dd m ++ [])))
            rw [List.append_nil]; exact .refl _
      refine rcancel (x := [i, j, i]) ?_
      refine (three i j hi hj).trans ?_
      refine (three j i hj hi).symm.trans ?_
      exact (pt f.symm []).front _
    · refine PE.app ?_ (.refl _)
      exact pt f _
theorem al_phi {u v : List Lt} (h : Al u v) : ∃ m0, ∀ m, m0 ≤ m → (∀ x ∈ u, x.1 < m) ∧ (∀ x ∈ v, x.1 < m) ∧ PE (phi m u ++ pw (dd m) (neg v)) (phi m v ++ pw (dd m) (neg u)) := by
  have bd : ∀ u : List Lt, ∃ m0, ∀ x ∈ u, x.1 < m0 := fun u => by
    induction u with
    | nil => exact ⟨0, fun x hx => by cases hx⟩
    | cons a u ih =>
      obtain ⟨m0, h⟩ := ih
      refine ⟨a.1 + 1 + m0, fun x hx => ?_⟩
      rcases List.mem_cons.mp hx with rfl | hx
      · omega
      · have := h x hx; omega
  induction h with
  | refl u =>
    obtain ⟨m0, h⟩ := bd u
    exact ⟨m0, fun m hm => ⟨fun x hx => by have := h x hx; omega, fun x hx => by have := h x hx; omega, .refl _⟩⟩
  | symm _ ih =>
    obtain ⟨m0, h⟩ := ih
    exact ⟨m0, fun m hm => ⟨(h m hm).2.1, (h m hm).1, (h m hm).2.2.symm⟩⟩
  | @trans u v w _ _ i1 i2 =>
    obtain ⟨m1, h1⟩ := i1
    obtain ⟨m2, h2⟩ := i2
    refine ⟨m1 + m2, fun m hm => ?_⟩
    obtain ⟨a1, a2, a3⟩ := h1 m (by omega)
    obtain ⟨b1, b2, b3⟩ := h2 m (by omega)
    refine ⟨a1, b2, rcancel (x := pw (dd m) (neg v)) ?_⟩
    simp only [List.append_assoc, ← pw_add]
    have p1 := a3.behind (pw (dd m) (neg w))
    have p2 := b3.behind (pw (dd m) (neg u))
    simp only [List.append_assoc, ← pw_add] at p1 p2
    rw [Nat.add_comm (neg w), Nat.add_comm (neg u)]
    refine p1.trans ?_
    rw [Nat.add_comm (neg u)]
    exact p2
  | @mv x y o n h =>
    obtain ⟨m1, h1⟩ := bd (x ++ o ++ y)
    obtain ⟨m2, h2⟩ := bd (x ++ n ++ y)
    refine ⟨m1 + m2, fun m hm => ?_⟩
    have k1 : ∀ z ∈ x ++ o ++ y, z.1 < m := fun z hz => by have := h1 z hz; omega
    have k2 : ∀ z ∈ x ++ n ++ y, z.1 < m := fun z hz => by have := h2 z hz; omega
    refine ⟨k1, k2, ?_⟩
    have hy : ∀ z ∈ phi m y, z < m := phi_lt fun z hz => k1 z (List.mem_append_right _ hz)
    have q := phi_mv h fun z hz => k1 z (List.mem_append_left _ (List.mem_append_right _ hz))
    simp only [phi_app, neg_app]
    have go : ∀ a b : List Lt, PE (phi m x ++ phi m a ++ phi m y ++ pw (dd m) (neg x + neg b + neg y)) (phi m x ++ (phi m a ++ pw (dd m) (neg b)) ++ (phi m y ++ pw (dd m) (neg x + neg y))) := fun a b => by
      rw [show neg x + neg b + neg y = neg b + (neg x + neg y) by omega, pw_add]
      have := ((ddk_past hy (neg b) (pw (dd m) (neg x + neg y))).symm.front (phi m x ++ phi m a))
      simpa [List.append_assoc] using this
    refine (go o n).trans (PE.trans ?_ (go n o).symm)
    exact (q.front _).behind _
def pos (p : List Nat) : List Lt := p.map fun i => (i, true)
theorem phi_pos (m : Nat) : ∀ p, phi m (pos p) = p
  | [] => rfl
  | i :: p => by show i :: phi m (pos p) = _; rw [phi_pos]
theorem neg_pos : ∀ p, neg (pos p) = 0
  | [] => rfl
  | i :: p => neg_pos p
/-- positive words that are alike are so by positive moves -/
theorem al_pos {p q : List Nat} (h : Al (pos p) (pos q)) : PE p q := by
  obtain ⟨m, h⟩ := al_phi h
  have := (h m (Nat.le_refl _)).2.2
  rw [phi_pos, phi_pos, neg_pos, neg_pos] at this
  simpa [pw] using this
end GA
/-! The group of plaits; positive ones; what a handle's reduction visits. -/
namespace GA
instance st : Setoid (List Lt) := ⟨Al, ⟨Al.refl, Al.symm, Al.trans⟩⟩
def BG := Quotient st
def gw (u : List Lt) : BG := Quotient.mk st u
theorem gw_sound {u v : List Lt} (h : Al u v) : gw u = gw v := Quotient.sound h
theorem gw_exact {u v : List Lt} (h : gw u = gw v) : Al u v := Quotient.exact h
def mu (a b : BG) : BG := Quotient.liftOn₂ a b (fun u v => gw (u ++ v)) fun u v u' v' h k => gw_sound (by
  have h1 := Al.ctx [] v h
  have h2 := Al.ctx u' [] k
  simp only [List.nil_append, List.append_nil] at h1 h2
  exact h1.trans h2)
instance : Mul BG := ⟨mu⟩
instance : One BG := ⟨gw []⟩
def fl (x : Lt) : Lt := (x.1, !x.2)
def iv (u : List Lt) : List Lt := (u.map fl).reverse
theorem fl_fl (x : Lt) : fl (fl x) = x := by unfold fl; simp
theorem iv_iv (u : List Lt) : iv (iv u) = u := by
  unfold iv
  rw [List.map_reverse, List.reverse_reverse, List.map_map]
  have : fl ∘ fl = id := funext fl_fl
  rw [this, List.map_id]
theorem iv_app (u v : List Lt) : iv (u ++ v) = iv v ++ iv u := by unfold iv; rw [List.map_append, List.reverse_append]
theorem m1_symm_iv {o n : List Lt} (h : M1 o n) : Al (iv o) (iv n) := by
  have go : ∀ {a b : List Lt}, M1 a b → Al a b := fun {a b} h => by have := Al.mv [] [] h; simpa using this
  cases h with
  | out i s => exact go (by
      have := M1.out i s
      simpa [iv, fl] using this)
  | far i j s t f => exact go (M1.far j i (!t) (!s) f.symm)
  | turn i j s f => exact go (M1.turn i j (!s) f)
theorem al_iv {u v : List Lt} (h : Al u v) : Al (iv u) (iv v) := by
  induction h with
  | refl u => exact .refl _
  | symm _ ih => exact ih.symm
  | trans _ _ i1 i2 => exact i1.trans i2
  | mv x y h =>
    rw [iv_app, iv_app, iv_app, iv_app]
    have := Al.ctx (iv y) (iv x) (m1_symm_iv h)
    simpa [List.append_assoc] using this
def ni (a : BG) : BG := Quotient.liftOn a (fun u => gw (iv u)) fun u v h => gw_sound (al_iv h)
instance : Inv BG := ⟨ni⟩
theorem gw_app (u v : List Lt) : gw (u ++ v) = gw u * gw v := rfl
theorem gw_nil : gw [] = 1 := rfl
theorem gw_iv (u : List Lt) : gw (iv u) = (gw u)⁻¹ := rfl
theorem mul_assoc (a b c : BG) : a * b * c = a * (b * c) := by
  induction a using Quotient.inductionOn with | _ a
  induction b using Quotient.inductionOn with | _ b
  induction c using Quotient.inductionOn with | _ c
  show gw (a ++ b ++ c) = gw (a ++ (b ++ c))
  rw [List.append_assoc]
theorem one_mul (a : BG) : 1 * a = a := by
  induction a using Quotient.inductionOn with | _ a
  rfl
theorem mul_one (a : BG) : a * 1 = a := by
  induction a using Quotient.inductionOn with | _ a
  show gw (a ++ []) = gw a
  rw [List.append_nil]
theorem al_inv : ∀ u : List Lt, Al (u ++ iv u) []
  | [] => .refl _
  | x :: u => by
    have ih := al_inv u
    have e : x :: u ++ iv (x :: u) = [x] ++ (u ++ iv u) ++ [fl x] := by
      have : iv (x :: u) = iv u ++ [fl x] := by unfold iv; rw [List.map_cons, List.reverse_cons]
      rw [this]
      simp
    rw [e]
    refine (Al.ctx [x] [fl x] ih).trans ?_
    have := Al.mv [] [] (M1.out x.1 x.2)
    simpa [fl] using this
theorem mul_inv (a : BG) : a * a⁻¹ = 1 := by
  induction a using Quotient.inductionOn with | _ a
  exact gw_sound (al_inv a)
theorem inv_inv (a : BG) : a⁻¹⁻¹ = a := by
  induction a using Quotient.inductionOn with | _ a
  show gw (iv (iv a)) = gw a
  rw [iv_iv]
theorem inv_mul (a : BG) : a⁻¹ * a = 1 := by
  have := mul_inv a⁻¹
  rwa [inv_inv] at this
theorem mul_inv_l (a b : BG) : a * (a⁻¹ * b) = b := by rw [← mul_assoc, mul_inv, one_mul]
theorem inv_mul_l (a b : BG) : a⁻¹ * (a * b) = b := by rw [← mul_assoc, inv_mul, one_mul]
theorem inv_one : (1 : BG)⁻¹ = 1 := rfl
theorem inv_prod (a b : BG) : (a * b)⁻¹ = b⁻¹ * a⁻¹ := by
  induction a using Quotient.inductionOn with | _ a
  induction b using Quotient.inductionOn with | _ b
  show gw (iv (a ++ b)) = gw (iv b ++ iv a)
  rw [iv_app]
theorem cancel_l {a b c : BG} (h : a * b = a * c) : b = c := by
  have := congrArg (a⁻¹ * ·) h
  simpa only [inv_mul_l] using this
theorem cancel_r {a b c : BG} (h : b * a = c * a) : b = c := by
  have := congrArg (· * a⁻¹) h
  simpa only [mul_assoc, mul_inv, mul_one] using this
/-- the crossing i -/
def g (i : Nat) : BG := gw [(i, true)]
def gl : Lt → BG
  | (i, true) => g i
  | (i, false) => (g i)⁻¹
theorem gl_eq (x : Lt) : gl x = gw [x] := by
  obtain ⟨i, s⟩ := x
  cases s <;> rfl
theorem gw_cons (x : Lt) (u : List Lt) : gw (x :: u) = gl x * gw u := by rw [gl_eq, ← gw_app]; rfl
theorem gl_fl (x : Lt) : gl (fl x) = (gl x)⁻¹ := by
  obtain ⟨i, s⟩ := x
  cases s
  · exact (inv_inv _).symm
  · rfl
theorem gl_far {i j : Nat} (s t : Bool) (h : Far i j) : gl (i, s) * gl (j, t) = gl (j, t) * gl (i, s) := by
  rw [gl_eq, gl_eq]
  have := Al.mv [] [] (M1.far i j s t h)
  exact gw_sound (by simpa using this)
theorem g_far {i j : Nat} (h : Far i j) : g i * g j = g j * g i := gl_far true true h
theorem g_near {i j : Nat} (h : Near i j) : g i * (g j * g i) = g j * (g i * g j) := by
  have := Al.mv [] [] (M1.turn i j true h)
  exact gw_sound (by simpa using this)
/-! ### positive plaits of m letters -/
def pv (p : List Nat) : BG := gw (pos p)
theorem pv_app (p q : List Nat) : pv (p ++ q) = pv p * pv q := by
  unfold pv pos
  rw [List.map_append]
  rfl
theorem pv_cons (a : Nat) (q : List Nat) : pv (a :: q) = g a * pv q := pv_app [a] q
theorem pv_one (a : Nat) : pv [a] = g a := rfl
theorem p1_al {p q : List Nat} (h : P1 p q) : pv p = pv q := by
  induction h with
  | far a b v h => rw [pv_cons, pv_cons, pv_cons, pv_cons, ← mul_assoc, ← mul_assoc, g_far h]
  | turn a b v h =>
    simp only [pv_cons]
    have := congrArg (· * pv v) (g_near h)
    simpa only [mul_assoc] using this
  | cons a _ ih => rw [pv_cons, pv_cons, ih]
theorem pv_pe {p q : List Nat} (h : PE p q) : pv p = pv q := by
  obtain ⟨n, h⟩ := h
  induction h with
  | nil u => rfl
  | step s _ ih => rw [p1_al s, ih]
theorem pe_pv {p q : List Nat} (h : pv p = pv q) : PE p q := al_pos (gw_exact h)
def Ps (m : Nat) (x : BG) : Prop := ∃ p : List Nat, (∀ a ∈ p, a < m) ∧ x = pv p
section
variable {m : Nat} {x y z : BG} {a b : Nat}
theorem Ps.one : Ps m 1 := ⟨[], fun _ h => (nomatch h), rfl⟩
theorem Ps.gen (h : a < m) : Ps m (g a) := ⟨[a], by simpa using h, rfl⟩
theorem Ps.mul (h : Ps m x) (k : Ps m y) : Ps m (x * y) := by
  obtain ⟨p, h, rfl⟩ := h
  obtain ⟨q, k, rfl⟩ := k
  refine ⟨p ++ q, fun a ha => ?_, (pv_app p q).symm⟩
  rcases List.mem_append.mp ha with ha | ha
  · exact h a ha
  · exact k a ha
theorem Ps.r (h : Ps m ((g a)⁻¹ * x)) (k : Ps m ((g b)⁻¹ * x)) : ∃ X Y : List Nat, R a b X Y ∧ (∀ c ∈ X, c < m) ∧ x = g a * pv X ∧ x = g b * pv Y := by
  obtain ⟨X, hX, e1⟩ := h
  obtain ⟨Y, hY, e2⟩ := k
  have f1 : x = g a * pv X := by rw [← e1, mul_inv_l]
  have f2 : x = g b * pv Y := by rw [← e2, mul_inv_l]
  refine ⟨X, Y, of_front (pe_pv ?_), hX, f1, f2⟩
  rw [pv_cons, pv_cons, ← f1, ← f2]
theorem Ps.lf (f : Far a b) (h : Ps m ((g a)⁻¹ * x)) (k : Ps m ((g b)⁻¹ * x)) : Ps m ((g b)⁻¹ * ((g a)⁻¹ * x)) := by
  obtain ⟨X, Y, r, hX, e1, e2⟩ := Ps.r h k
  rcases r with ⟨e, _⟩ | ⟨_, Z, h1, h2⟩ | ⟨f', _⟩
  · omega
  · refine ⟨Z, fun c hc => hX c ((h1.mem c).mpr (List.mem_cons_of_mem _ hc)), ?_⟩
    rw [e1, inv_mul_l, pv_pe h1, pv_cons, inv_mul_l]
  · omega
theorem Ps.ln (f : Near a b) (h : Ps m ((g a)⁻¹ * x)) (k : Ps m ((g b)⁻¹ * x)) : Ps m ((g a)⁻¹ * ((g b)⁻¹ * ((g a)⁻¹ * x))) := by
  obtain ⟨X, Y, r, hX, e1, e2⟩ := Ps.r h k
  rcases r with ⟨e, _⟩ | ⟨f', _⟩ | ⟨_, Z, h1, h2⟩
  · omega
  · omega
  · refine ⟨Z, fun c hc => hX c ((h1.mem c).mpr (List.mem_cons_of_mem _ (List.mem_cons_of_mem _ hc))), ?_⟩
    rw [e1, inv_mul_l, pv_pe h1, pv_cons, inv_mul_l, pv_cons, inv_mul_l]
theorem Ps.rr (h : Ps m (x * (g a)⁻¹)) (k : Ps m (x * (g b)⁻¹)) : ∃ X Y : List Nat, R a b X Y ∧ (∀ c ∈ X, c < m) ∧ x = pv X.reverse * g a ∧ x = pv Y.reverse * g b := by
  obtain ⟨X, hX, e1⟩ := h
  obtain ⟨Y, hY, e2⟩ := k
  have f1 : x = pv X * g a := by rw [← e1, mul_assoc, inv_mul, mul_one]
  have f2 : x = pv Y * g b := by rw [← e2, mul_assoc, inv_mul, mul_one]
  refine ⟨X.reverse, Y.reverse, of_front ?_, fun c hc => hX c (List.mem_reverse.mp hc), by rw [List.reverse_reverse]; exact f1, by rw [List.reverse_reverse]; exact f2⟩
  have e : PE (X ++ [a]) (Y ++ [b]) := pe_pv (by rw [pv_app, pv_app]; exact f1.symm.trans f2)
  have := e.rev
  simpa using this
theorem Ps.rf (f : Far a b) (h : Ps m (x * (g a)⁻¹)) (k : Ps m (x * (g b)⁻¹)) : Ps m (x * (g a)⁻¹ * (g b)⁻¹) := by
  obtain ⟨X, Y, r, hX, e1, e2⟩ := Ps.rr h k
  rcases r with ⟨e, _⟩ | ⟨_, Z, h1, h2⟩ | ⟨f', _⟩
  · omega
  · refine ⟨Z.reverse, fun c hc => hX c ((h1.mem c).mpr (List.mem_cons_of_mem _ (List.mem_reverse.mp hc))), ?_⟩
    have := pv_pe h1.rev
    rw [List.reverse_cons, pv_app] at this
    rw [e1, this]
    simp only [mul_assoc, mul_inv, mul_one, pv_one]
  · omega
theorem Ps.rn (f : Near a b) (h : Ps m (x * (g a)⁻¹)) (k : Ps m (x * (g b)⁻¹)) : Ps m (x * (g a)⁻¹ * (g b)⁻¹ * (g a)⁻¹) := by
  obtain ⟨X, Y, r, hX, e1, e2⟩ := Ps.rr h k
  rcases r with ⟨e, _⟩ | ⟨f', _⟩ | ⟨_, Z, h1, h2⟩
  · omega
  · omega
  · refine ⟨Z.reverse, fun c hc => hX c ((h1.mem c).mpr (List.mem_cons_of_mem _ (List.mem_cons_of_mem _ (List.mem_reverse.mp hc)))), ?_⟩
    have := pv_pe h1.rev
    rw [List.reverse_cons, List.reverse_cons, pv_app, pv_app] at this
    rw [e1, this]
    simp only [mul_assoc, mul_inv, mul_one, pv_one, mul_inv_l]
end
/-! ### a set that is closed as the divisors of a plait are -/
structure Cl (m : Nat) (S : BG → Prop) : Prop where
  conv : ∀ x t y, S x → S y → Ps m (x⁻¹ * t) → Ps m (t⁻¹ * y) → S t
  uf : ∀ z a b, a < m → b < m → Far a b → S z → S (z * g a) → S (z * g b) → S (z * g a * g b)
  un : ∀ z a b, a < m → b < m → Near a b → S z → S (z * g a) → S (z * g b) → S (z * g a * g b * g a)
  df : ∀ z a b, a < m → b < m → Far a b → S z → S (z * (g a)⁻¹) → S (z * (g b)⁻¹) → S (z * (g a)⁻¹ * (g b)⁻¹)
  dn : ∀ z a b, a < m → b < m → Near a b → S z → S (z * (g a)⁻¹) → S (z * (g b)⁻¹) → S (z * (g a)⁻¹ * (g b)⁻¹ * (g a)⁻¹)
/-- the divisors of a positive plait -/
def Dv (m : Nat) (be x : BG) : Prop := Ps m x ∧ Ps m (x⁻¹ * be)
theorem dv_cl (m : Nat) (be : BG) : Cl m (Dv m be) where
  conv := fun x t y hx hy h1 h2 => by
    refine ⟨?_, ?_⟩
    · have := hx.1.mul h1
      rwa [mul_inv_l] at this
    · have := h2.mul hy.2
      rw [mul_assoc, mul_inv_l] at this
      exact this
  uf := fun z a b ha hb f hz h1 h2 => by
    refine ⟨(hz.1.mul (.gen ha)).mul (.gen hb), ?_⟩
    have k1 := h1.2
    have k2 := h2.2
    rw [inv_prod, mul_assoc] at k1 k2
    have := Ps.lf f k1 k2
    simpa only [inv_prod, mul_assoc] using this
  un := fun z a b ha hb f hz h1 h2 => by
    refine ⟨((hz.1.mul (.gen ha)).mul (.gen hb)).mul (.gen ha), ?_⟩
    have k1 := h1.2
    have k2 := h2.2
    rw [inv_prod, mul_assoc] at k1 k2
    have := Ps.ln f k1 k2
    simpa only [inv_prod, mul_assoc] using this
  df := fun z a b ha hb f hz h1 h2 => by
    refine ⟨Ps.rf f h1.1 h2.1, ?_⟩
    have := (Ps.gen hb).mul ((Ps.gen ha).mul hz.2)
    simpa only [inv_prod, inv_inv, mul_assoc] using this
  dn := fun z a b ha hb f hz h1 h2 => by
    refine ⟨Ps.rn f h1.1 h2.1, ?_⟩
    have := (Ps.gen ha).mul ((Ps.gen hb).mul ((Ps.gen ha).mul hz.2))
    simpa only [inv_prod, inv_inv, mul_assoc] using this
/-! ### mirrored -/
theorem m1_mir {o n : List Lt} (h : M1 o n) : Al (o.map fl) (n.map fl) := by
  have go : ∀ {a b : List Lt}, M1 a b → Al a b := fun {a b} h => by have := Al.mv [] [] h; simpa using this
  cases h with
  | out i s => exact go (M1.out i (!s))
  | far i j s t f => exact go (M1.far i j (!s) (!t) f)
  | turn i j s f => exact go (M1.turn i j (!s) f)
theorem al_mir {u v : List Lt} (h : Al u v) : Al (u.map fl) (v.map fl) := by
  induction h with
  | refl u => exact .refl _
  | symm _ ih => exact ih.symm
  | trans _ _ i1 i2 => exact i1.trans i2
  | mv x y h =>
    simp only [List.map_append]
    exact Al.ctx _ _ (m1_mir h)
def mir (a : BG) : BG := Quotient.liftOn a (fun u => gw (u.map fl)) fun u v h => gw_sound (al_mir h)
theorem mir_gw (u : List Lt) : mir (gw u) = gw (u.map fl) := rfl
theorem mir_mul (a b : BG) : mir (a * b) = mir a * mir b := by
  induction a using Quotient.inductionOn with | _ a
  induction b using Quotient.inductionOn with | _ b
  show gw ((a ++ b).map fl) = gw (a.map fl ++ b.map fl)
  rw [List.map_append]
theorem mir_mir (a : BG) : mir (mir a) = a := by
  induction a using Quotient.inductionOn with | _ a
  show gw ((a.map fl).map fl) = gw a
  rw [List.map_map, show fl ∘ fl = id from funext fl_fl, List.map_id]
theorem mir_inv (a : BG) : mir a⁻¹ = (mir a)⁻¹ := by
  induction a using Quotient.inductionOn with | _ a
  show gw ((iv a).map fl) = gw (iv (a.map fl))
  unfold iv
  rw [List.map_reverse]
theorem mir_g (i : Nat) : mir (g i) = (g i)⁻¹ := rfl
theorem mir_gl (x : Lt) : mir (gl x) = gl (fl x) := by rw [gl_eq, gl_eq]; rfl
/-- the mirrored positive plait, undone, is positive -/
theorem Ps.mir {m : Nat} {x : BG} (h : Ps m x) : Ps m (mir x)⁻¹ := by
  obtain ⟨p, h, rfl⟩ := h
  refine ⟨p.reverse, fun a ha => h a (List.mem_reverse.mp ha), ?_⟩
  show gw (iv ((pos p).map fl)) = gw (pos p.reverse)
  unfold iv pos
  rw [List.map_map, List.map_map, ← List.map_reverse]
  rfl
theorem Cl.mir {m : Nat} {S : BG → Prop} (c : Cl m S) : Cl m (fun x => S (GA.mir x)) where
  conv := fun x t y hx hy h1 h2 => by
    refine c.conv (GA.mir y) (GA.mir t) (GA.mir x) hy hx ?_ ?_
    · have := h2.mir
      rwa [mir_mul, inv_prod, mir_inv, inv_inv] at this
    · have := h1.mir
      rwa [mir_mul, inv_prod, mir_inv, inv_inv] at this
  uf := fun z a b ha hb f hz h1 h2 => by
    rw [mir_mul, mir_g] at h1 h2
    rw [mir_mul, mir_mul, mir_g, mir_g]
    exact c.df _ a b ha hb f hz h1 h2
  un := fun z a b ha hb f hz h1 h2 => by
    rw [mir_mul, mir_g] at h1 h2
    rw [mir_mul, mir_mul, mir_mul, mir_g, mir_g]
    exact c.dn _ a b ha hb f hz h1 h2
  df := fun z a b ha hb f hz h1 h2 => by
    rw [mir_mul, mir_inv, mir_g, inv_inv] at h1 h2
    rw [mir_mul, mir_mul, mir_inv, mir_inv, mir_g, mir_g, inv_inv, inv_inv]
    exact c.uf _ a b ha hb f hz h1 h2
  dn := fun z a b ha hb f hz h1 h2 => by
    rw [mir_mul, mir_inv, mir_g, inv_inv] at h1 h2
    rw [mir_mul, mir_mul, mir_mul, mir_inv, mir_inv, mir_g, mir_g, inv_inv, inv_inv]
    exact c.un _ a b ha hb f hz h1 h2
end GA
/-! A handle taken out: the word made, and what it visits. -/
namespace GA
def Dr (S : BG → Prop) : BG → List Lt → Prop
  | z, [] => S z
  | z, c :: w => S z ∧ Dr S (z * gl c) w
theorem Dr.head {S : BG → Prop} {z : BG} {w : List Lt} (h : Dr S z w) : S z := by
  cases w with
  | nil => exact h
  | cons c w => exact h.1
theorem Dr.last {S : BG → Prop} : ∀ {w : List Lt} {z : BG}, Dr S z w → S (z * gw w)
  | [], z, h => by rw [gw_nil, mul_one]; exact h
  | c :: w, z, h => by rw [gw_cons, ← mul_assoc]; exact h.2.last
theorem dr_app {S : BG → Prop} : ∀ {u v : List Lt} {z : BG}, Dr S z (u ++ v) ↔ Dr S z u ∧ Dr S (z * gw u) v
  | [], v, z => by
    rw [gw_nil, mul_one]
    exact ⟨fun h => ⟨h.head, h⟩, fun h => h.2⟩
  | c :: u, v, z => by
    show S z ∧ Dr S (z * gl c) (u ++ v) ↔ (S z ∧ Dr S (z * gl c) u) ∧ _
    rw [dr_app, gw_cons, mul_assoc]
    exact ⟨fun h => ⟨⟨h.1, h.2.1⟩, h.2.2⟩, fun h => ⟨h.1.1, h.1.2, h.2⟩⟩
theorem Dr.pre {S : BG → Prop} {u v : List Lt} {z : BG} (h : Dr S z (u ++ v)) : S (z * gw u) := (dr_app.mp h).2.head
/-- what becomes of an inner letter of a handle with the outer letter (j, e) -/
def rd (j : Nat) (e : Bool) (c : Lt) : List Lt := if c.1 = j + 1 then [(j + 1, !e), (j, c.2), (j + 1, e)] else [c]
def red (j : Nat) (e : Bool) (v : List Lt) : List Lt := v.flatMap (rd j e)
theorem red_cons (j : Nat) (e : Bool) (c : Lt) (v : List Lt) : red j e (c :: v) = rd j e c ++ red j e v := rfl
theorem red_app (j : Nat) (e : Bool) (u v : List Lt) : red j e (u ++ v) = red j e u ++ red j e v := List.flatMap_append
/-- inner letters -/
def Inn (j : Nat) (c : Lt) : Prop := c.1 ≠ j ∧ c.1 + 1 ≠ j
theorem Inn.far {j : Nat} {c : Lt} (h : Inn j c) (h2 : c.1 ≠ j + 1) : Far c.1 j := by
  obtain ⟨h0, h1⟩ := h
  omega
theorem near_swap {a b : Nat} (h : Near a b) : g a * g b * (g a)⁻¹ = (g b)⁻¹ * (g a * g b) := by
  have q := g_near h
  refine cancel_l (a := g b) (cancel_r (a := g a) ?_)
  simp only [mul_assoc, inv_mul, mul_one, mul_inv_l]
  exact q.symm
theorem near_swapi {a b : Nat} (h : Near a b) : g a * (g b)⁻¹ * (g a)⁻¹ = (g b)⁻¹ * ((g a)⁻¹ * g b) := by
  have q := near_swap h
  have r := congrArg (·⁻¹) q
  simp only [inv_prod, inv_inv] at r
  simpa only [mul_assoc] using r
theorem g_far_inv {a b : Nat} (h : Far a b) : g a * (g b)⁻¹ = (g b)⁻¹ * g a := gl_far true false h
theorem g_inv_far {a b : Nat} (h : Far a b) : (g a)⁻¹ * (g b)⁻¹ = (g b)⁻¹ * (g a)⁻¹ := gl_far false false h
/-- an inner letter, carried past the outer one -/
theorem gw_rd {j : Nat} {e : Bool} {c : Lt} (h : Inn j c) : gl (j, e) * gl c = gw (rd j e c) * gl (j, e) := by
  obtain ⟨i, s⟩ := c
  unfold rd
  by_cases q : i = j + 1
  · subst q
    rw [if_pos rfl]
    simp only [gw_cons, gw_nil, mul_one]
    have n : Near j (j + 1) := .inl rfl
    have a := near_swap n
    have b := near_swapi n
    cases e <;> cases s
    · show (g j)⁻¹ * (g (j + 1))⁻¹ = g (j + 1) * ((g j)⁻¹ * (g (j + 1))⁻¹) * (g j)⁻¹
      have r := congrArg (fun x => (x)⁻¹) (g_near n)
      simp only [inv_prod, mul_assoc] at r
      refine cancel_l (a := (g (j + 1))⁻¹) ?_
      simp only [mul_assoc, inv_mul_l]
      exact r.symm
    · show (g j)⁻¹ * g (j + 1) = g (j + 1) * (g j * (g (j + 1))⁻¹) * (g j)⁻¹
      refine cancel_l (a := g j) (cancel_r (a := g j) (cancel_r (a := g (j + 1)) ?_))
      simp only [mul_assoc, inv_mul, mul_one, mul_inv_l, inv_mul_l]
      exact (g_near n).symm
    · show g j * (g (j + 1))⁻¹ = (g (j + 1))⁻¹ * ((g j)⁻¹ * g (j + 1)) * g j
      refine cancel_l (a := g (j + 1)) (cancel_l (a := g j) (cancel_r (a := g (j + 1)) ?_))
      simp only [mul_assoc, inv_mul, mul_one, mul_inv_l, inv_mul_l]
      exact g_near n
    · show g j * g (j + 1) = (g (j + 1))⁻¹ * (g j * g (j + 1)) * g j
      refine cancel_l (a := g (j + 1)) ?_
      simp only [mul_assoc, mul_inv_l]
      exact (g_near n).symm
  · rw [if_neg q, ← gl_eq]
    exact gl_far e s (h.far q).symm
theorem gw_red {j : Nat} {e : Bool} : ∀ {v : List Lt}, (∀ c ∈ v, Inn j c) → gl (j, e) * gw v = gw (red j e v) * gl (j, e)
  | [], _ => by rw [show red j e [] = [] from rfl, gw_nil, one_mul, mul_one]
  | c :: v, h => by
    rw [gw_cons, red_cons, gw_app, ← mul_assoc, gw_rd (h c List.mem_cons_self), mul_assoc, gw_red (fun d hd => h d (List.mem_cons_of_mem _ hd)), mul_assoc]
section
variable {m : Nat} {S : BG → Prop} {j : Nat}
theorem cv (c : Cl m S) {x t y : BG} (hx : S x) (hy : S y) {p q : List Nat} (hp : ∀ a ∈ p, a < m) (hq : ∀ a ∈ q, a < m) (h1 : t = x * pv p) (h2 : y = t * pv q) : S t :=
  c.conv x t y hx hy ⟨p, hp, by rw [h1, inv_mul_l]⟩ ⟨q, hq, by rw [h2, inv_mul_l]⟩
/-- outer letters (j, true) .. (j, false); the letters j + 1 between are negative: from the front -/
theorem dr_left (cl : Cl m S) (hj : j < m) : ∀ {v : List Lt} {z : BG}, (∀ c ∈ v, Inn j c ∧ c.1 < m ∧ (c.1 = j + 1 → c.2 = false)) → Dr S z v → S (z * (g j)⁻¹) → Dr S (z * (g j)⁻¹) (red j true v)
  | [], z, _, _, ht => ht
  | (i, s) :: v, z, hv, hd, ht => by
    obtain ⟨⟨hi, hi'⟩, him, hs⟩ := hv _ List.mem_cons_self
    have hv' := fun c hc => hv c (List.mem_cons_of_mem _ hc)
    have hz : S z := hd.1
    have hd' : Dr S (z * gl (i, s)) v := hd.2
    have hz' : S (z * gl (i, s)) := hd'.head
    rw [red_cons]
    by_cases q : i = j + 1
    · subst q
      have hs' : s = false := hs rfl
      subst hs'
      have n : Near j (j + 1) := .inl rfl
      have hl := cl.dn z j (j + 1) hj him n hz ht hz'
      have e1 : z * (g j)⁻¹ * (g (j + 1))⁻¹ * (g j)⁻¹ * g (j + 1) = z * gl (j + 1, false) * (g j)⁻¹ := by
        have r := near_swapi n.symm
        show _ = z * (g (j + 1))⁻¹ * (g j)⁻¹
        have r2 := congrArg (fun x => (x)⁻¹) (g_near n)
        simp only [inv_prod, mul_assoc] at r2
        refine cancel_r (a := (g (j + 1))⁻¹) ?_
        simp only [mul_assoc, mul_inv, mul_one]
        rw [r2]
      have hv1 : S (z * (g j)⁻¹ * (g (j + 1))⁻¹) := cv cl (p := [j]) (q := [j + 1]) hl ht (by simpa using hj) (by simpa using him) (by rw [pv_one]; simp only [mul_assoc, inv_mul, mul_one]) (by rw [pv_one]; simp only [mul_assoc, inv_mul, mul_one])
      have ht' : S (z * gl (j + 1, false) * (g j)⁻¹) := cv cl (p := [j + 1]) (q := [j]) hl hz' (by simpa using him) (by simpa using hj) (by rw [pv_one, ← e1]) (by rw [pv_one]; simp only [mul_assoc, inv_mul, mul_one])
      have ih := dr_left cl hj hv' hd' ht'
      show Dr S (z * (g j)⁻¹) ((if j + 1 = j + 1 then [(j + 1, false), (j, false), (j + 1, true)] else [(j + 1, false)]) ++ red j true v)
      rw [if_pos rfl]
      refine ⟨ht, hv1, hl, ?_⟩
      show Dr S (z * (g j)⁻¹ * (g (j + 1))⁻¹ * (g j)⁻¹ * g (j + 1)) (red j true v)
      rw [e1]
      exact ih
    · have f : Far i j := by omega
      have cm : z * (g j)⁻¹ * gl (i, s) = z * gl (i, s) * (g j)⁻¹ := by
        rw [mul_assoc, mul_assoc]
        congr 1
        exact gl_far false s f.symm
      have ht' : S (z * gl (i, s) * (g j)⁻¹) := by
        cases s with
        | true =>
          refine cv cl (p := [i]) (q := [j]) ht hz' (by simpa using him) (by simpa using hj) ?_ ?_
          · rw [← cm]; rfl
          · rw [pv_one]; simp only [mul_assoc, inv_mul, mul_one]
        | false =>
          exact cl.df z i j him hj f hz hz' ht
      show Dr S (z * (g j)⁻¹) ((if i = j + 1 then _ else [(i, s)]) ++ red j true v)
      rw [if_neg q]
      refine ⟨ht, ?_⟩
      show Dr S (z * (g j)⁻¹ * gl (i, s)) (red j true v)
      rw [cm]
      exact dr_left cl hj hv' hd' ht'
/-- they are positive: from the end -/
theorem dr_right (cl : Cl m S) (hj : j < m) : ∀ {v : List Lt} {z : BG}, (∀ c ∈ v, Inn j c ∧ c.1 < m ∧ (c.1 = j + 1 → c.2 = true)) → Dr S z v → S (z * gw v * (g j)⁻¹) → Dr S (z * (g j)⁻¹) (red j true v)
  | [], z, _, _, ht => by rw [gw_nil, mul_one] at ht; exact ht
  | (i, s) :: v, z, hv, hd, ht => by
    obtain ⟨⟨hi, hi'⟩, him, hs⟩ := hv _ List.mem_cons_self
    have hv' := fun c hc => hv c (List.mem_cons_of_mem _ hc)
    have hz : S z := hd.1
    have hd' : Dr S (z * gl (i, s)) v := hd.2
    have hz' : S (z * gl (i, s)) := hd'.head
    rw [gw_cons, ← mul_assoc] at ht
    have ih := dr_right cl hj hv' hd' ht
    have ht' := ih.head
    rw [red_cons]
    by_cases q : i = j + 1
    · subst q
      have hs' : s = true := hs rfl
      subst hs'
      have n : Near j (j + 1) := .inl rfl
      have hb : S (z * gl (j + 1, true) * (g (j + 1))⁻¹) := by
        show S (z * g (j + 1) * (g (j + 1))⁻¹)
        rw [mul_assoc, mul_inv, mul_one]
        exact hz
      have hl := cl.dn _ j (j + 1) hj him n hz' ht' hb
      have e0 : z * gl (j + 1, true) * (g j)⁻¹ * (g (j + 1))⁻¹ * (g j)⁻¹ = z * (g j)⁻¹ * (g (j + 1))⁻¹ := by
        have r2 := congrArg (fun x => (x)⁻¹) (g_near n)
        simp only [inv_prod, mul_assoc] at r2
        show z * g (j + 1) * (g j)⁻¹ * (g (j + 1))⁻¹ * (g j)⁻¹ = _
        simp only [mul_assoc]
        rw [r2, mul_inv_l]
      rw [e0] at hl
      have e1 : z * (g j)⁻¹ * (g (j + 1))⁻¹ * g j * g (j + 1) = z * gl (j + 1, true) * (g j)⁻¹ := by
        show _ = z * g (j + 1) * (g j)⁻¹
        refine cancel_r (a := g j) ?_
        have r := g_near n
        simp only [mul_assoc, inv_mul, mul_one] at r ⊢
        rw [r]
        simp only [inv_mul_l]
      have ht0 : S (z * (g j)⁻¹) := cv cl (p := [j + 1]) (q := [j]) hl hz (by simpa using him) (by simpa using hj) (by rw [pv_one]; simp only [mul_assoc, inv_mul, mul_one]) (by rw [pv_one]; simp only [mul_assoc, inv_mul, mul_one])
      have hv2 : S (z * (g j)⁻¹ * (g (j + 1))⁻¹ * g j) := cv cl (p := [j]) (q := [j + 1]) hl ht' (by simpa using hj) (by simpa using him) rfl (by rw [pv_one, e1])
      show Dr S (z * (g j)⁻¹) ((if j + 1 = j + 1 then [(j + 1, false), (j, true), (j + 1, true)] else [(j + 1, true)]) ++ red j true v)
      rw [if_pos rfl]
      refine ⟨ht0, hl, hv2, ?_⟩
      show Dr S (z * (g j)⁻¹ * (g (j + 1))⁻¹ * g j * g (j + 1)) (red j true v)
      rw [e1]
      exact ih
    · have f : Far i j := by omega
      have cm : z * (g j)⁻¹ * gl (i, s) = z * gl (i, s) * (g j)⁻¹ := by
        rw [mul_assoc, mul_assoc]
        congr 1
        exact gl_far false s f.symm
      have ht0 : S (z * (g j)⁻¹) := by
        cases s with
        | true =>
          have hb : S (z * gl (i, true) * (g i)⁻¹) := by
            show S (z * g i * (g i)⁻¹)
            rw [mul_assoc, mul_inv, mul_one]
            exact hz
          have := cl.df _ j i hj him f.symm hz' ht' hb
          rw [← cm] at this
          have e : z * (g j)⁻¹ * gl (i, true) * (g i)⁻¹ = z * (g j)⁻¹ := by
            show z * (g j)⁻¹ * g i * (g i)⁻¹ = _
            simp only [mul_assoc, mul_inv, mul_one]
          rwa [e] at this
        | false =>
          refine cv cl (p := [i]) (q := [j]) ht' hz (by simpa using him) (by simpa using hj) ?_ ?_
          · rw [← cm, pv_one]
            show _ = z * (g j)⁻¹ * (g i)⁻¹ * g i
            simp only [mul_assoc, inv_mul, mul_one]
          · rw [pv_one]; simp only [mul_assoc, inv_mul, mul_one]
      show Dr S (z * (g j)⁻¹) ((if i = j + 1 then _ else [(i, s)]) ++ red j true v)
      rw [if_neg q]
      refine ⟨ht0, ?_⟩
      show Dr S (z * (g j)⁻¹ * gl (i, s)) (red j true v)
      rw [cm]
      exact ih
/-- a handle is taken out within the set -/
theorem dr_true (cl : Cl m S) (hj : j < m) {v : List Lt} {d : Bool} {z : BG} (hv : ∀ c ∈ v, Inn j c ∧ c.1 < m ∧ (c.1 = j + 1 → c.2 = d)) (h : Dr S z ((j, true) :: v ++ [(j, false)])) : Dr S z (red j true v) := by
  have hz : S z := h.1
  have h2 : Dr S (z * g j) (v ++ [(j, false)]) := h.2
  rw [dr_app] at h2
  have e : z * g j * (g j)⁻¹ = z := by rw [mul_assoc, mul_inv, mul_one]
  cases d with
  | false =>
    have := dr_left cl hj hv h2.1 (by rw [e]; exact hz)
    rwa [e] at this
  | true =>
    have := dr_right cl hj hv h2.1 h2.2.2
    rwa [e] at this
end
theorem dr_mir {S : BG → Prop} : ∀ {w : List Lt} {z : BG}, Dr (fun x => S (mir x)) z w ↔ Dr S (mir z) (w.map fl)
  | [], z => Iff.rfl
  | c :: w, z => by
    show S (mir z) ∧ Dr (fun x => S (mir x)) (z * gl c) w ↔ S (mir z) ∧ Dr S (mir z * gl (fl c)) (w.map fl)
    rw [dr_mir, mir_mul, mir_gl]
theorem red_mir (j : Nat) (e : Bool) (v : List Lt) : (red j e v).map fl = red j (!e) (v.map fl) := by
  induction v with
  | nil => rfl
  | cons c v ih =>
    rw [red_cons, List.map_append, ih, List.map_cons, red_cons]
    congr 1
    obtain ⟨i, s⟩ := c
    unfold rd fl
    by_cases q : i = j + 1
    · subst q; simp
    · simp [q]
theorem dr_handle {m : Nat} {S : BG → Prop} {j : Nat} (cl : Cl m S) (hj : j < m) {v : List Lt} {d e : Bool} {z : BG} (hv : ∀ c ∈ v, Inn j c ∧ c.1 < m ∧ (c.1 = j + 1 → c.2 = d)) (h : Dr S z ((j, e) :: v ++ [(j, !e)])) : Dr S z (red j e v) := by
  cases e with
  | true => exact dr_true cl hj hv h
  | false =>
    have k : Dr (fun x => S (mir x)) (mir z) ((j, true) :: v.map fl ++ [(j, false)]) := by
      rw [dr_mir, mir_mir]
      have : ((j, true) :: v.map fl ++ [(j, false)]).map fl = (j, false) :: v ++ [(j, !false)] := by
        simp only [List.map_cons, List.map_append, List.map_map, List.map_nil, List.cons_append]
        rw [show fl ∘ fl = id from funext fl_fl, List.map_id]
        rfl
      rw [this]
      exact h
    have r := dr_true cl.mir hj (d := !d) (v := v.map fl) (fun c hc => by
      obtain ⟨c0, h0, rfl⟩ := List.mem_map.mp hc
      obtain ⟨h1, h2, h3⟩ := hv c0 h0
      exact ⟨h1, h2, fun q => by show (!c0.2) = !d; rw [h3 q]⟩) k
    rw [dr_mir, mir_mir, red_mir, List.map_map, show fl ∘ fl = id from funext fl_fl, List.map_id] at r
    exact r
end GA
/-! One step of the reduction; what it does to the letters of one size. -/
namespace GA
def tk (K : Nat) (c : Lt) : Option (Option Bool) := if c.1 = K then some (some c.2) else if c.1 + 1 = K then some none else none
def toks (K : Nat) (w : List Lt) : List (Option Bool) := w.filterMap (tk K)
theorem toks_app (K : Nat) (u v : List Lt) : toks K (u ++ v) = toks K u ++ toks K v := List.filterMap_append
theorem toks_cons (K : Nat) (c : Lt) (v : List Lt) : toks K (c :: v) = toks K [c] ++ toks K v := toks_app K [c] v
theorem tk_k (K : Nat) (e : Bool) : toks K [(K, e)] = [some e] := by simp [toks, tk]
theorem tk_no {K : Nat} {c : Lt} (h : c.1 ≠ K ∧ c.1 + 1 ≠ K) : toks K [c] = [] := by simp [toks, tk, h.1, h.2]
theorem toks_no {K : Nat} {v : List Lt} (h : ∀ c ∈ v, c.1 ≠ K ∧ c.1 + 1 ≠ K) : toks K v = [] := by
  induction v with
  | nil => rfl
  | cons c v ih => rw [toks_cons, tk_no (h c List.mem_cons_self), ih (fun d hd => h d (List.mem_cons_of_mem _ hd))]; rfl
theorem no_toks {K : Nat} {v : List Lt} (h : toks K v = []) : ∀ c ∈ v, c.1 ≠ K ∧ c.1 + 1 ≠ K := by
  intro c hc
  have := (List.filterMap_eq_nil_iff.mp h) c hc
  unfold tk at this
  split at this
  · cases this
  · split at this
    · cases this
    · rename_i a b; exact ⟨a, b⟩
def opp : Option Bool → Option Bool → Nat
  | some a, some b => if a = b then 0 else 1
  | _, _ => 0
def chg : List (Option Bool) → Nat
  | a :: b :: r => opp a b + chg (b :: r)
  | _ => 0
theorem chg_two (a b : Option Bool) (r : List (Option Bool)) : chg (a :: b :: r) = opp a b + chg (b :: r) := rfl
theorem chg_one (a : Option Bool) : chg [a] = 0 := rfl
theorem chg_app : ∀ (X : List (Option Bool)) (a : Option Bool) (Y : List (Option Bool)), chg (X ++ a :: Y) = chg (X ++ [a]) + chg (a :: Y)
  | [], a, Y => by show chg (a :: Y) = 0 + chg (a :: Y); omega
  | [b], a, Y => by show opp b a + chg (a :: Y) = opp b a + 0 + chg (a :: Y); omega
  | b :: c :: X, a, Y => by
    have := chg_app (c :: X) a Y
    show opp b c + chg (c :: X ++ a :: Y) = opp b c + chg (c :: X ++ [a]) + chg (a :: Y)
    omega
theorem opp_le (a b : Option Bool) : opp a b ≤ 1 := by
  unfold opp
  split
  · split <;> omega
  · omega
theorem opp_self (a : Option Bool) : opp a a = 0 := by
  cases a with
  | none => rfl
  | some b => simp [opp]
theorem opp_e {a b : Option Bool} (h : opp a b = 1) : ∃ e, a = some e ∧ b = some (!e) := by
  cases a with
  | none => cases h
  | some x =>
    cases b with
    | none => cases h
    | some y =>
      refine ⟨x, rfl, ?_⟩
      cases x <;> cases y <;> first | rfl | cases h
theorem opp_n (e : Bool) : opp (some e) (some (!e)) = 1 := by cases e <;> rfl
theorem opp_n' (e : Bool) : opp (some (!e)) (some e) = 1 := by cases e <;> rfl
theorem chg_rep (a : Option Bool) (Y : List (Option Bool)) : ∀ n, chg (a :: (List.replicate n a ++ Y)) = chg (a :: Y)
  | 0 => rfl
  | n + 1 => by
    rw [List.replicate_succ, List.cons_append, chg_two, opp_self, chg_rep a Y n]
    omega
theorem chg_le_cons (a : Option Bool) (Y : List (Option Bool)) : chg Y ≤ chg (a :: Y) := by
  cases Y with
  | nil => exact Nat.zero_le _
  | cons b Y => rw [chg_two]; omega
/-- the first change of sign at level K -/
def Fr (K : Nat) (e : Bool) (w x : List Lt) : Prop := ∃ y, w = x ++ y ∧ (∃ x0, x = x0 ++ [(K, e)]) ∧ chg (toks K x) = 0 ∧ ∃ Y, toks K y = some (!e) :: Y
theorem Fr.uniq {K : Nat} {e e' : Bool} {w x x' : List Lt} (h : Fr K e w x) (h' : Fr K e' w x') : x = x' ∧ e = e' := by
  have key : ∀ {e e' : Bool} {x x' y y' a : List Lt}, (∃ x0, x = x0 ++ [(K, e)]) → (∃ Y, toks K y = some (!e) :: Y) → (∃ x0, x' = x0 ++ [(K, e')]) → chg (toks K x') = 0 → x' = x ++ a → y = a ++ y' → a = [] := by
    rintro e e' x x' y y' a ⟨x0, hx⟩ ⟨Y, hY⟩ ⟨x0', hx'⟩ hc h1 h2
    rcases List.eq_nil_or_concat a with q | ⟨a0, c, q⟩
    · exact q
    · exfalso
      subst q
      have h3 : x ++ a0 ++ [c] = x0' ++ [(K, e')] := by rw [← hx', h1]; simp
      have hcE : c = (K, e') := by have := List.append_inj_right' h3 rfl; simpa using this
      subst hcE
      have ha : toks K (a0 ++ [(K, e')]) = toks K a0 ++ [some e'] := by rw [toks_app, tk_k]
      simp only [List.concat_eq_append] at h1 h2
      rw [h2, toks_app, ha] at hY
      obtain ⟨T, hT⟩ : ∃ T, toks K a0 ++ [some e'] = some (!e) :: T := by
        cases hz : toks K a0 with
        | nil => rw [hz] at hY; injection hY with p1 p2; exact ⟨[], by rw [← p1]; rfl⟩
        | cons t T => rw [hz] at hY; injection hY with p1 p2; exact ⟨T ++ [some e'], by rw [← p1]; rfl⟩
      rw [h1, hx, toks_app, toks_app, tk_k, ha, hT, List.append_assoc] at hc
      show False
      have : chg (toks K x0 ++ some e :: some (!e) :: T) = 0 := hc
      rw [chg_app, chg_two, opp_n] at this
      omega
  obtain ⟨y, h1, h2, h3, h4⟩ := h
  obtain ⟨y', h1', h2', h3', h4'⟩ := h'
  have fin : x = x' := by
    rcases List.append_eq_append_iff.mp (h1.symm.trans h1') with ⟨a, q1, q2⟩ | ⟨a, q1, q2⟩
    · have := key h2 h4 h2' h3' q1 q2
      rw [q1, this, List.append_nil]
    · have := key h2' h4' h2 h3 q1 q2
      rw [q1, this, List.append_nil]
  refine ⟨fin, ?_⟩
  obtain ⟨a, ha⟩ := h2
  obtain ⟨b, hb⟩ := h2'
  have := List.append_inj_right' (ha.symm.trans (fin.trans hb)) rfl
  simpa using this
/-! ### the steps -/
inductive Cn (k : Nat) : List Lt → List Lt → Prop
  | nil (w : List Lt) : Cn k w w
  | cut (x y : List Lt) (i : Nat) (s : Bool) {w : List Lt} (h : k < i) (r : Cn k (x ++ y) w) : Cn k (x ++ (i, s) :: (i, !s) :: y) w
inductive Sp (m k : Nat) : List Lt → List Lt → Prop
  | mk (x y v : List Lt) (e d : Bool) {w : List Lt} (hk : k < m) (hv : ∀ c ∈ v, Inn k c ∧ (c.1 = k + 1 → c.2 = d)) (hx : chg (toks k (x ++ [(k, e)])) = 0) (hc : Cn k (x ++ red k e v ++ y) w) : Sp m k (x ++ (k, e) :: v ++ (k, !e) :: y) w
theorem gw_pair (x y : List Lt) (i : Nat) (s : Bool) : gw (x ++ (i, s) :: (i, !s) :: y) = gw (x ++ y) := by
  have := Al.mv x y (M1.out i s)
  exact gw_sound (by simpa using this)
theorem Cn.gw {k : Nat} {u w : List Lt} (h : Cn k u w) : gw u = GA.gw w := by
  induction h with
  | nil w => rfl
  | cut x y i s h r ih => rw [gw_pair, ih]
theorem gw_handle (x y v : List Lt) (k : Nat) (e : Bool) (hv : ∀ c ∈ v, Inn k c) : gw (x ++ (k, e) :: v ++ (k, !e) :: y) = gw (x ++ red k e v ++ y) := by
  have q := gw_red (j := k) (e := e) hv
  have f : gl (k, !e) = (gl (k, e))⁻¹ := gl_fl (k, e)
  simp only [gw_app, gw_cons, f, mul_assoc]
  rw [← mul_assoc (gl (k, e)), q]
  simp only [mul_assoc, mul_inv_l]
theorem Sp.gw {m k : Nat} {u w : List Lt} (h : Sp m k u w) : gw u = GA.gw w := by
  cases h with
  | mk x y v e d hk hv hx hc => rw [← hc.gw, gw_handle _ _ _ _ _ fun c h => (hv c h).1]
theorem Cn.lt {m k : Nat} {u w : List Lt} (h : Cn k u w) (hu : ∀ c ∈ u, c.1 < m) : ∀ c ∈ w, c.1 < m := by
  induction h with
  | nil w => exact hu
  | cut x y i s h r ih =>
    refine ih fun c hc => hu c ?_
    rcases List.mem_append.mp hc with q | q
    · exact List.mem_append_left _ q
    · exact List.mem_append_right _ (List.mem_cons_of_mem _ (List.mem_cons_of_mem _ q))
theorem red_lt {m k : Nat} {e : Bool} {v : List Lt} (hv : ∀ c ∈ v, c.1 < m) (hk : k < m) : ∀ c ∈ red k e v, c.1 < m := by
  intro c hc
  obtain ⟨b, hb, hc⟩ := List.mem_flatMap.mp hc
  unfold rd at hc
  have := hv b hb
  split at hc
  · rename_i q
    simp only [List.mem_cons, List.not_mem_nil, or_false] at hc
    rcases hc with rfl | rfl | rfl <;> dsimp <;> omega
  · simp only [List.mem_singleton] at hc
    subst hc; exact this
theorem Sp.lt {m k : Nat} {u w : List Lt} (h : Sp m k u w) (hu : ∀ c ∈ u, c.1 < m) : ∀ c ∈ w, c.1 < m := by
  cases h with
  | mk x y v e d hk hv hx hc =>
    refine hc.lt fun c h => ?_
    rcases List.mem_append.mp h with q | q
    · rcases List.mem_append.mp q with q | q
      · exact hu c (by simp [q])
      · exact red_lt (fun c hc => hu c (by simp [hc])) hk c q
    · exact hu c (by simp [q])
theorem Cn.dr {k : Nat} {S : BG → Prop} {z : BG} {u w : List Lt} (h : Cn k u w) (hu : Dr S z u) : Dr S z w := by
  induction h with
  | nil w => exact hu
  | cut x y i s h r ih =>
    refine ih ?_
    rw [dr_app] at hu ⊢
    refine ⟨hu.1, ?_⟩
    have := hu.2.2.2
    have e : z * GA.gw x * gl (i, s) * gl (i, !s) = z * GA.gw x := by
      have f : gl (i, !s) = (gl (i, s))⁻¹ := gl_fl (i, s)
      rw [f, mul_assoc, mul_inv, mul_one]
    rwa [e] at this
theorem Sp.dr {m k : Nat} {S : BG → Prop} (cl : Cl m S) {z : BG} {u w : List Lt} (h : Sp m k u w) (hl : ∀ c ∈ u, c.1 < m) (hu : Dr S z u) : Dr S z w := by
  cases h with
  | mk x y v e d hk hv hx hc =>
    refine hc.dr ?_
    have e1 : x ++ (k, e) :: v ++ (k, !e) :: y = x ++ (((k, e) :: v ++ [(k, !e)]) ++ y) := by simp
    rw [e1, dr_app, dr_app] at hu
    rw [List.append_assoc, dr_app, dr_app]
    refine ⟨hu.1, dr_handle cl hk (d := d) (fun c hc => ⟨(hv c hc).1, hl c (by simp [hc]), (hv c hc).2⟩) hu.2.1, ?_⟩
    have e2 : GA.gw ((k, e) :: v ++ [(k, !e)]) = GA.gw (red k e v) := by
      have := gw_handle [] [] v k e fun c h => (hv c h).1
      simpa using this
    rw [← e2]
    exact hu.2.2
/-! ### at a lower level -/
theorem toks_red {K k : Nat} (h : K < k) (e : Bool) (v : List Lt) : toks K (red k e v) = toks K v := by
  induction v with
  | nil => rfl
  | cons c v ih =>
    rw [red_cons, toks_app, ih, toks_cons K c v]
    congr 1
    unfold rd
    split
    · rename_i q
      rw [tk_no (by omega)]
      exact toks_no (by intro d hd; simp at hd; rcases hd with rfl | rfl | rfl <;> dsimp <;> omega)
    · rfl
theorem last_k {K : Nat} {e : Bool} {x x0 p : List Lt} {c : Lt} (h : x = x0 ++ [(K, e)]) (h2 : x = p ++ [c]) : c = (K, e) := by
  have := List.append_inj_right' (h2.symm.trans h) rfl
  simpa using this
theorem snoc_of {K : Nat} {e : Bool} {x x0 p c' : List Lt} (h : x = x0 ++ [(K, e)]) (h2 : x = p ++ c') (hc : c' ≠ []) : ∃ c0, c' = c0 ++ [(K, e)] := by
  rcases List.eq_nil_or_concat c' with q | ⟨c0, c, q⟩
  · exact absurd q hc
  · rw [List.concat_eq_append] at q
    subst q
    have := last_k h (p := p ++ c0) (c := c) (by rw [h2]; simp)
    subst this
    exact ⟨c0, rfl⟩
theorem Cn.level {K k : Nat} (hk : K ≤ k) {u w : List Lt} (h : Cn k u w) : toks K w = toks K u ∧ ∀ e x, Fr K e u x → ∃ x', Fr K e w x' ∧ GA.gw x' = GA.gw x := by
  induction h with
  | nil w => exact ⟨rfl, fun e x f => ⟨x, f, rfl⟩⟩
  | @cut p q i s w h r ih =>
    have t0 : ∀ z : List Lt, toks K ((i, s) :: (i, !s) :: z) = toks K z := fun z => by
      rw [toks_cons, toks_cons K (i, !s) z, tk_no (by dsimp; omega), tk_no (by dsimp; omega)]
      rfl
    refine ⟨by rw [ih.1, toks_app, toks_app, t0], fun e x f => ?_⟩
    obtain ⟨y, h1, ⟨x0, h2⟩, h3, Y, h4⟩ := f
    have nx : ∀ (a : List Lt) (b : Bool), x = a ++ [(i, b)] → False := fun a b z => by
      have := last_k h2 z
      injection this with z1 z2
      omega
    have step : ∃ x', Fr K e (p ++ q) x' ∧ GA.gw x' = GA.gw x := by
      rcases List.append_eq_append_iff.mp h1 with ⟨a, q1, q2⟩ | ⟨a, q1, q2⟩
      · cases a with
        | nil =>
          rw [List.append_nil] at q1
          exact ⟨x, ⟨q, by rw [q1], ⟨x0, h2⟩, h3, Y, by rw [← h4, ← List.nil_append y, ← q2, t0]⟩, rfl⟩
        | cons b a =>
          injection q2 with z1 z2
          subst z1
          cases a with
          | nil => exact (nx p s (by rw [q1])).elim
          | cons b a =>
            injection z2 with z1 z2
            subst z1
            cases a with
            | nil => exact (nx (p ++ [(i, s)]) (!s) (by rw [q1]; simp)).elim
            | cons b a =>
              refine ⟨p ++ b :: a, ⟨y, by rw [z2]; simp, ?_, ?_, Y, h4⟩, ?_⟩
              · obtain ⟨c0, hc0⟩ := snoc_of h2 (p := p ++ [(i, s), (i, !s)]) (c' := b :: a) (by rw [q1]; simp) (by simp)
                exact ⟨p ++ c0, by rw [hc0]; simp⟩
              · rw [q1, toks_app, t0, ← toks_app] at h3
                exact h3
              · rw [q1, gw_pair]
      · refine ⟨x, ⟨a ++ q, by rw [q1]; simp, ⟨x0, h2⟩, h3, Y, ?_⟩, rfl⟩
        rw [← h4, q2, toks_app, toks_app, t0]
    obtain ⟨x', f1, f2⟩ := step
    obtain ⟨x2, f3, f4⟩ := ih.2 e x' f1
    exact ⟨x2, f3, f4.trans f2⟩
theorem red_last {K k : Nat} {e e' : Bool} (h : K < k) (v : List Lt) : red k e' (v ++ [(K, e)]) = red k e' v ++ [(K, e)] := by
  rw [red_app]
  congr 1
  show rd k e' (K, e) ++ [] = _
  unfold rd
  rw [if_neg (by dsimp; omega)]
  rfl
/-- a step at a greater size -/
theorem Sp.above {m K k : Nat} (hk : K < k) {u w : List Lt} (h : Sp m k u w) : toks K w = toks K u ∧ ∀ e x, Fr K e u x → ∃ x' r, Fr K e w x' ∧ GA.gw x' = GA.gw x * GA.gw r ∧ ∀ c ∈ r, K < c.1 := by
  cases h with
  | mk p q v e' d hkm hv hx hc =>
    obtain ⟨c1, c2⟩ := hc.level (Nat.le_of_lt hk)
    have tn : ∀ b : Bool, toks K [(k, b)] = [] := fun b => tk_no (by dsimp; omega)
    have t1 : ∀ (b : Bool) (z : List Lt), toks K ((k, b) :: z) = toks K z := fun b z => by rw [toks_cons, tn]; rfl
    refine ⟨by rw [c1]; simp only [toks_app, t1, toks_red hk], fun e x f => ?_⟩
    obtain ⟨y, h1, ⟨x0, h2⟩, h3, Y, h4⟩ := f
    have nx : ∀ (a : List Lt) (b : Bool), x = a ++ [(k, b)] → False := fun a b z => by
      have := last_k h2 z
      injection this with z1 z2
      omega
    have step : ∃ x' r, Fr K e (p ++ red k e' v ++ q) x' ∧ GA.gw x' = GA.gw x * GA.gw r ∧ ∀ c ∈ r, K < c.1 := by
      have same : ∀ {x' y' : List Lt}, p ++ red k e' v ++ q = x' ++ y' → (∃ x0, x' = x0 ++ [(K, e)]) → toks K x' = toks K x → toks K y' = toks K y → Fr K e (p ++ red k e' v ++ q) x' := fun a b c d => ⟨_, a, b, by rw [c]; exact h3, Y, by rw [d]; exact h4⟩
      rw [List.append_assoc] at h1
      rcases List.append_eq_append_iff.mp h1 with ⟨a, q1, q2⟩ | ⟨a, q1, q2⟩
      · -- x = p ++ a
        cases a with
        | nil =>
          rw [List.append_nil] at q1
          refine ⟨x, [], same (y' := red k e' v ++ q) (by rw [q1]; simp) ⟨x0, h2⟩ rfl ?_, by rw [gw_nil, mul_one], fun c hc => (nomatch hc)⟩
          rw [← List.nil_append y, ← q2, toks_app, toks_red hk, toks_app, t1, t1]
        | cons b a =>
          injection q2 with z1 z2
          subst z1
          rcases List.append_eq_append_iff.mp z2 with ⟨a2, r1, r2⟩ | ⟨a2, r1, r2⟩
          · -- a = v ++ a2
            cases a2 with
            | nil =>
              rw [List.append_nil] at r1
              subst r1
              have ha : a ≠ [] := fun z => by subst z; exact nx p e' q1
              obtain ⟨a0, ha0⟩ := snoc_of h2 (p := p ++ [(k, e')]) (c' := a) (by rw [q1]; simp) ha
              refine ⟨p ++ red k e' a, [(k, !e')], same (y' := q) rfl ⟨p ++ red k e' a0, by rw [ha0, red_last hk]; simp⟩ ?_ ?_, ?_, by intro c hc; simp at hc; subst hc; exact hk⟩
              · rw [q1, toks_app, toks_app, t1, toks_red hk]
              · rw [← List.nil_append y, ← r2, t1]
              · have g1 := gw_red (j := k) (e := e') (v := a) fun c hc => (hv c hc).1
                have f : gl (k, !e') = (gl (k, e'))⁻¹ := gl_fl (k, e')
                rw [q1]
                simp only [gw_app, gw_cons, gw_nil, mul_one, f, mul_assoc]
                rw [← mul_assoc (gl (k, e')), g1, mul_assoc, mul_inv, mul_one]
            | cons b a2 =>
              injection r2 with z1 z3
              subst z1
              have ha : a2 ≠ [] := fun z => by subst z; exact nx (p ++ (k, e') :: v) (!e') (by rw [q1, r1]; simp)
              obtain ⟨a0, ha0⟩ := snoc_of h2 (p := p ++ (k, e') :: v ++ [(k, !e')]) (c' := a2) (by rw [q1, r1]; simp) ha
              refine ⟨p ++ red k e' v ++ a2, [], same (y' := y) (by rw [z3]; simp) ⟨p ++ red k e' v ++ a0, by rw [ha0]; simp⟩ ?_ rfl, ?_, fun c hc => (nomatch hc)⟩
              · rw [q1, r1]; simp only [toks_app, t1, toks_red hk, List.append_assoc]
              · rw [gw_nil, mul_one, q1, r1, ← gw_handle p a2 v k e' fun c hc => (hv c hc).1]
                simp
          · -- v = a ++ a2
            have ha : a ≠ [] := fun z => by subst z; exact nx p e' q1
            obtain ⟨a0, ha0⟩ := snoc_of h2 (p := p ++ [(k, e')]) (c' := a) (by rw [q1]; simp) ha
            refine ⟨p ++ red k e' a, [(k, !e')], same (y' := red k e' a2 ++ q) (by rw [r1, red_app]; simp) ⟨p ++ red k e' a0, by rw [ha0, red_last hk]; simp⟩ ?_ ?_, ?_, by intro c hc; simp at hc; subst hc; exact hk⟩
            · rw [q1, toks_app, toks_app, t1, toks_red hk]
            · rw [r2]; simp only [toks_app, t1, toks_red hk]
            · have g1 := gw_red (j := k) (e := e') (v := a) fun c hc => (hv c (by rw [r1]; simp [hc])).1
              have f : gl (k, !e') = (gl (k, e'))⁻¹ := gl_fl (k, e')
              rw [q1]
              simp only [gw_app, gw_cons, gw_nil, mul_one, f, mul_assoc]
              rw [← mul_assoc (gl (k, e')), g1, mul_assoc, mul_inv, mul_one]
      · -- p = x ++ a
        refine ⟨x, [], same (y' := a ++ red k e' v ++ q) (by rw [q1]; simp) ⟨x0, h2⟩ rfl ?_, by rw [gw_nil, mul_one], fun c hc => (nomatch hc)⟩
        rw [q2]; simp only [toks_app, t1, toks_red hk, List.append_assoc]
    obtain ⟨x', r, f1, f2, f3⟩ := step
    obtain ⟨x2, f4, f5⟩ := c2 e x' f1
    exact ⟨x2, r, f4, f5.trans f2, f3⟩
end GA
/-! A step at its own level; no row of steps is endless. -/
namespace GA
theorem iv_mem {u : List Lt} {c : Lt} (h : c ∈ iv u) : fl c ∈ u := by
  unfold iv at h
  obtain ⟨d, hd, rfl⟩ := List.mem_map.mp (List.mem_reverse.mp h)
  rw [fl_fl]; exact hd
theorem tk_some {K : Nat} {c : Lt} {e : Bool} (h : tk K c = some (some e)) : c = (K, e) := by
  obtain ⟨i, s⟩ := c
  unfold tk at h
  split at h
  · rename_i q
    injection h with h; injection h with h
    dsimp at q h
    rw [q, h]
  · split at h <;> cases h
/-- the last letter of the size K, and nothing of the sizes K and K - 1 behind it -/
theorem toks_last {K : Nat} {x : List Lt} {T : List (Option Bool)} {t : Option Bool} (h : toks K x = T ++ [t]) : ∃ xa c xb, x = xa ++ c :: xb ∧ tk K c = some t ∧ toks K xa = T ∧ toks K xb = [] := by
  have key : ∀ (n : Nat) (x : List Lt), x.length = n → ∀ T t, toks K x = T ++ [t] → ∃ xa c xb, x = xa ++ c :: xb ∧ tk K c = some t ∧ toks K xa = T ∧ toks K xb = [] := by
    intro n
    induction n with
    | zero =>
      intro x hx T t h
      have := List.length_eq_zero_iff.mp hx
      subst this
      cases T <;> cases h
    | succ n ih =>
      intro x hx T t h
      rcases List.eq_nil_or_concat x with q | ⟨x0, c, q⟩
      · subst q; cases hx
      · rw [List.concat_eq_append] at q
        subst q
        rw [toks_app] at h
        cases hc : tk K c with
        | none =>
          have hc' : toks K [c] = [] := by simp [toks, hc]
          rw [hc', List.append_nil] at h
          obtain ⟨xa, c', xb, h1, h2, h3, h4⟩ := ih x0 (by simpa using hx) T t h
          exact ⟨xa, c', xb ++ [c], by rw [h1]; simp, h2, h3, by rw [toks_app, h4, hc']; rfl⟩
        | some t' =>
          have hc' : toks K [c] = [t'] := by simp [toks, hc]
          rw [hc'] at h
          have e1 := List.append_inj_left' h rfl
          have e2 := List.append_inj_right' h rfl
          simp only [List.cons.injEq, and_true] at e2
          exact ⟨x0, c, [], rfl, by rw [hc, e2], e1, rfl⟩
  exact key _ x rfl T t h
theorem toks_red_k {k : Nat} {e d : Bool} : ∀ {v : List Lt}, (∀ c ∈ v, Inn k c ∧ (c.1 = k + 1 → c.2 = d)) →
    (toks k (red k e v) = [] ∧ ∀ c ∈ v, c.1 ≠ k + 1) ∨ ∃ n va vb, toks k (red k e v) = List.replicate (n + 1) (some d) ∧ v = va ++ (k + 1, d) :: vb ∧ ∀ c ∈ vb, c.1 ≠ k + 1
  | [], _ => .inl ⟨rfl, fun c h => (nomatch h)⟩
  | c :: v, h => by
    have ih := toks_red_k (e := e) (v := v) fun c hc => h c (List.mem_cons_of_mem _ hc)
    obtain ⟨hi, hd⟩ := h c List.mem_cons_self
    rw [red_cons, toks_app]
    by_cases q : c.1 = k + 1
    · have hcd := hd q
      have hc : c = (k + 1, d) := by obtain ⟨i, s⟩ := c; dsimp at q hcd; rw [q, hcd]
      subst hc
      have e1 : toks k (rd k e (k + 1, d)) = [some d] := by
        unfold rd
        rw [if_pos rfl]
        show toks k ([(k + 1, !e)] ++ ([(k, d)] ++ [(k + 1, e)])) = _
        rw [toks_app, toks_app, tk_k, tk_no (by dsimp; omega), tk_no (by dsimp; omega)]
        rfl
      rw [e1]
      rcases ih with ⟨h1, h2⟩ | ⟨n, va, vb, h1, h2, h3⟩
      · exact .inr ⟨0, [], v, by rw [h1]; rfl, rfl, h2⟩
      · exact .inr ⟨n + 1, (k + 1, d) :: va, vb, by rw [h1]; rfl, by rw [h2]; rfl, h3⟩
    · have e1 : toks k (rd k e c) = [] := by
        unfold rd
        rw [if_neg q]
        exact tk_no hi
      rw [e1, List.nil_append]
      rcases ih with ⟨h1, h2⟩ | ⟨n, va, vb, h1, h2, h3⟩
      · refine .inl ⟨h1, fun d hd => ?_⟩
        rcases List.mem_cons.mp hd with rfl | hd
        · exact q
        · exact h2 d hd
      · exact .inr ⟨n, c :: va, vb, h1, by rw [h2]; rfl, h3⟩
theorem red_id {k : Nat} {e : Bool} {v : List Lt} (h : ∀ c ∈ v, c.1 ≠ k + 1) : red k e v = v := by
  induction v with
  | nil => rfl
  | cons c v ih =>
    rw [red_cons, ih fun d hd => h d (List.mem_cons_of_mem _ hd)]
    unfold rd
    rw [if_neg (h c List.mem_cons_self)]
    rfl
/-- a word in which the letters of the size K have the sign of e alone, and of which none has the size K - 1 -/
def Nn (K : Nat) (e : Bool) (u : List Lt) : Prop := ∀ c ∈ u, c.1 + 1 ≠ K ∧ c ≠ (K, !e)
/-- a step at its own level: the letters' changes of sign do not grow in number, and where they stay as many the first one goes on -/
theorem Sp.own {m k : Nat} {u w : List Lt} (h : Sp m k u w) : ∃ e x, Fr k e u x ∧ chg (toks k w) ≤ chg (toks k u) ∧
    (chg (toks k w) = chg (toks k u) → ∃ x' r, Fr k e w x' ∧ GA.gw x' = GA.gw x * GA.gw r ∧ Nn k (!e) r ∧ (k, !e) ∈ r) := by
  cases h with
  | mk x y v e d hkm hv hx hc =>
    obtain ⟨c1, c2⟩ := hc.level (Nat.le_refl k)
    have tv : toks k v = [] := toks_no fun c h => (hv c h).1
    have f0 : gl (k, !e) = (gl (k, e))⁻¹ := gl_fl (k, e)
    have hdw := gw_handle x y v k e fun c h => (hv c h).1
    have eu : toks k (x ++ (k, e) :: v ++ (k, !e) :: y) = toks k x ++ some e :: some (!e) :: toks k y := by
      rw [toks_app, toks_app, toks_cons k _ v, toks_cons k _ y, tv, tk_k, tk_k]
      simp
    have hxx := hx
    rw [toks_app, tk_k] at hx
    have before : chg (toks k (x ++ (k, e) :: v ++ (k, !e) :: y)) = 1 + chg (some (!e) :: toks k y) := by
      rw [eu, chg_app, hx, chg_two, opp_n]
      omega
    refine ⟨e, x ++ [(k, e)], ⟨v ++ (k, !e) :: y, by simp, ⟨x, rfl⟩, hxx, toks k y, by rw [toks_app, tv, toks_cons, tk_k]; rfl⟩, ?_⟩
    rw [c1, before]
    have back : ∀ {x1 r : List Lt}, Fr k e (x ++ red k e v ++ y) x1 → GA.gw x1 = GA.gw (x ++ [(k, e)]) * GA.gw r → Nn k (!e) r → (k, !e) ∈ r → ∃ x' r, Fr k e w x' ∧ GA.gw x' = GA.gw (x ++ [(k, e)]) * GA.gw r ∧ Nn k (!e) r ∧ (k, !e) ∈ r := fun {x1 r} f a b c => by
      obtain ⟨x2, f2, f3⟩ := c2 e x1 f
      exact ⟨x2, r, f2, f3.trans a, b, c⟩
    have nn : ∀ {z : List Lt}, (∀ c ∈ z, c.1 ≠ k ∧ c.1 + 1 ≠ k) → Nn k (!e) z := fun h c hc => ⟨(h c hc).2, fun z => (h c hc).1 (by rw [z])⟩
    have nni : ∀ {z : List Lt}, (∀ c ∈ z, c.1 ≠ k ∧ c.1 + 1 ≠ k) → Nn k (!e) (iv z) := fun h => nn fun c hc => h (fl c) (iv_mem hc)
    have nn1 : Nn k (!e) [(k, !e)] := fun c hc => by
      simp only [List.mem_singleton] at hc
      subst hc
      refine ⟨by dsimp; omega, fun z => ?_⟩
      injection z with _ z
      cases e <;> cases z
    have nnap : ∀ {a b : List Lt}, Nn k (!e) a → Nn k (!e) b → Nn k (!e) (a ++ b) := fun p q c hc => by
      rcases List.mem_append.mp hc with z | z
      · exact p c z
      · exact q c z
    -- the case that the change goes to the front
    have front : ∀ (T : List (Option Bool)), toks k x = T ++ [some e] → (∃ Z, toks k (red k e v) ++ toks k y = some (!e) :: Z) → ∃ x' r, Fr k e w x' ∧ GA.gw x' = GA.gw (x ++ [(k, e)]) * GA.gw r ∧ Nn k (!e) r ∧ (k, !e) ∈ r := fun T hT hZ => by
      obtain ⟨xa, c, xb, q1, q2, q3, q4⟩ := toks_last hT
      have hce := tk_some q2
      subst hce
      have nb := no_toks q4
      refine back (x1 := xa ++ [(k, e)]) (r := [(k, !e)] ++ iv xb) ⟨xb ++ red k e v ++ y, by rw [q1]; simp, ⟨xa, rfl⟩, ?_, ?_⟩ ?_ (nnap nn1 (nni nb)) (by simp)
      · rw [toks_app, tk_k, q3]
        have := hx
        rw [hT, List.append_assoc] at this
        have h2 : chg (T ++ some e :: [some e]) = 0 := this
        rw [chg_app] at h2
        omega
      · obtain ⟨Z, hZ⟩ := hZ
        exact ⟨Z, by rw [toks_app, toks_app, q4, List.nil_append]; exact hZ⟩
      · rw [q1]
        have : GA.gw (iv xb) = (GA.gw xb)⁻¹ := rfl
        simp only [gw_app, gw_cons, gw_nil, mul_one, f0, this, mul_assoc, mul_inv_l, mul_inv]
    rcases toks_red_k (e := e) hv with ⟨h1, h2⟩ | ⟨n, va, vb, h1, h2, h3⟩
    · -- no letters k + 1
      have after : toks k (x ++ red k e v ++ y) = toks k x ++ toks k y := by rw [toks_app, toks_app, h1, List.append_nil]
      rw [after]
      rcases List.eq_nil_or_concat (toks k x) with q | ⟨T, t, q⟩
      · rw [q, List.nil_append]
        have := chg_le_cons (some (!e)) (toks k y)
        exact ⟨by omega, fun z => by omega⟩
      · rw [List.concat_eq_append] at q
        have hT : chg (T ++ [t]) = 0 ∧ opp t (some e) = 0 := by
          rw [q, List.append_assoc] at hx
          have h2 : chg (T ++ t :: [some e]) = 0 := hx
          rw [chg_app, chg_two] at h2
          omega
        rw [q, List.append_assoc]
        show chg (T ++ t :: toks k y) ≤ _ ∧ (chg (T ++ t :: toks k y) = _ → _)
        rw [chg_app, hT.1]
        cases hy : toks k y with
        | nil =>
          rw [chg_one, chg_one]
          exact ⟨by omega, fun z => by omega⟩
        | cons y0 Y =>
          rw [chg_two, chg_two]
          have o1 := opp_le t y0
          refine ⟨by omega, fun z => ?_⟩
          have o2 : opp t y0 = 1 := by omega
          obtain ⟨a, rfl, hb⟩ := opp_e o2
          have hae : a = e := by
            have := hT.2
            unfold opp at this
            split at this
            · rename_i a' b' p1 p2
              injection p1 with p1; injection p2 with p2
              subst p1 p2
              split at this
              · assumption
              · omega
            · rename_i p1; exact (p1 a e rfl rfl).elim
          subst hae
          exact front T q ⟨Y, by rw [h1, hy, hb]; rfl⟩
    · have after : toks k (x ++ red k e v ++ y) = toks k x ++ (some d :: (List.replicate n (some d) ++ toks k y)) := by
        rw [toks_app, toks_app, h1, List.replicate_succ, List.append_assoc]
        rfl
      rw [after, chg_app, chg_rep]
      by_cases hd : d = e
      · subst hd
        rw [hx]
        cases hy : toks k y with
        | nil =>
          rw [chg_one, chg_one]
          exact ⟨by omega, fun z => by omega⟩
        | cons y0 Y =>
          rw [chg_two, chg_two]
          have o1 := opp_le (some d) y0
          refine ⟨by omega, fun z => ?_⟩
          have o2 : opp (some d) y0 = 1 := by omega
          obtain ⟨a, ha, hb⟩ := opp_e o2
          injection ha with ha
          subst ha
          have ib : ∀ c ∈ vb, c.1 ≠ k ∧ c.1 + 1 ≠ k := fun c hc => (hv c (by rw [h2]; simp [hc])).1
          have ia : ∀ c ∈ va, Inn k c := fun c hc => (hv c (by rw [h2]; simp [hc])).1
          have erd : red k d v = red k d va ++ (k + 1, !d) :: (k, d) :: (k + 1, d) :: vb := by
            rw [h2, red_app, red_cons, red_id h3]
            unfold rd
            rw [if_pos rfl]
            rfl
          refine back (x1 := x ++ red k d va ++ [(k + 1, !d), (k, d)]) (r := v ++ ([(k, !d)] ++ (iv vb ++ [(k + 1, !d)]))) ⟨(k + 1, d) :: vb ++ y, ?_, ⟨x ++ red k d va ++ [(k + 1, !d)], by simp⟩, ?_, Y, ?_⟩ ?_ ?_ (by simp)
          · rw [erd]; simp
          · have tva : toks k (x ++ red k d va ++ [(k + 1, !d), (k, d)]) ++ [] = toks k x ++ (some d :: (List.replicate n (some d) ++ [])) := by
              have e3 : toks k (red k d v) = toks k (red k d va) ++ [some d] := by
                rw [erd, toks_app, toks_cons k _ (_ :: _), toks_cons k (k, d), toks_cons k (k + 1, d), tk_k, tk_no (by dsimp; omega), tk_no (by dsimp; omega), toks_no ib]
                rfl
              rw [h1] at e3
              rw [toks_app, toks_app, toks_cons k _ [_], tk_k, tk_no (by dsimp; omega), List.append_nil, List.nil_append, List.append_assoc, ← e3, List.replicate_succ, List.append_nil]
            rw [List.append_nil] at tva
            rw [tva, chg_app, chg_rep, hx, chg_one]
          · rw [toks_app, toks_cons, tk_no (by dsimp; omega), toks_no ib, hy, hb]
            rfl
          · have e5 : GA.gw (iv vb) = (GA.gw vb)⁻¹ := rfl
            have e6 : gl (k + 1, !d) = (gl (k + 1, d))⁻¹ := gl_fl (k + 1, d)
            have q := gw_red (j := k) (e := d) (v := v) fun c h => (hv c h).1
            refine cancel_r (a := gl (k + 1, d) * GA.gw vb) ?_
            have l1 : GA.gw (x ++ red k d va ++ [(k + 1, !d), (k, d)]) * (gl (k + 1, d) * GA.gw vb) = GA.gw x * GA.gw (red k d v) := by
              rw [erd]
              simp only [gw_app, gw_cons, gw_nil, mul_one, mul_assoc]
            rw [l1]
            simp only [gw_app, gw_cons, gw_nil, mul_one, e5, e6, f0, mul_assoc, inv_mul_l, inv_mul]
            rw [← mul_assoc (gl (k, d)) (GA.gw v), q, mul_assoc, mul_inv, mul_one]
          · refine nnap (nn fun c hc => (hv c hc).1) (nnap nn1 (nnap (nni ib) (nn fun c hc => ?_)))
            simp only [List.mem_singleton] at hc
            subst hc
            dsimp
            omega
      · have hde : d = !e := by cases d <;> cases e <;> simp_all
        subst hde
        rcases List.eq_nil_or_concat (toks k x) with q | ⟨T, t, q⟩
        · rw [q, List.nil_append, chg_one]
          exact ⟨by omega, fun z => by omega⟩
        · rw [List.concat_eq_append] at q
          have hT : chg (T ++ [t]) = 0 := by
            rw [q, List.append_assoc] at hx
            have h2 : chg (T ++ t :: [some e]) = 0 := hx
            rw [chg_app] at h2
            omega
          have e4 : chg (toks k x ++ [some !e]) = opp t (some !e) := by
            rw [q, List.append_assoc]
            show chg (T ++ t :: [some !e]) = _
            rw [chg_app, hT, chg_two, chg_one]
            omega
          rw [e4]
          have o1 := opp_le t (some !e)
          refine ⟨by omega, fun z => ?_⟩
          have o2 : opp t (some !e) = 1 := by omega
          obtain ⟨a, ha, hb⟩ := opp_e o2
          injection hb with hb
          have hae : a = e := by cases a <;> cases e <;> first | rfl | cases hb
          subst ha hae
          exact front T q ⟨List.replicate n (some !a) ++ toks k y, by rw [h1, List.replicate_succ]; rfl⟩
end GA
set_option maxHeartbeats 0
/-! the braid relation of point 17: by a checked table of cases -/
namespace BZ
def vadd : List Int → List Int → List Int
  | a :: x, b :: y => (a + b) :: vadd x y
  | [], y => y
  | x, [] => x
def smul (c : Int) (x : List Int) : List Int := x.map (c * ·)
def dot : List Int → List Int → Int
  | a :: x, b :: y => a * b + dot x y
  | _, _ => 0
theorem dot_nil (v : List Int) : dot [] v = 0 := rfl
theorem dot_vadd : ∀ x y v : List Int, dot (vadd x y) v = dot x v + dot y v
  | [], y, v => by show dot y v = 0 + dot y v; omega
  | a :: x, [], v => by
    have e : dot [] v = 0 := rfl
    show dot (a :: x) v = _
    rw [e]; omega
  | a :: x, b :: y, [] => by
    have e : ∀ z : List Int, dot z [] = 0 := fun z => by cases z <;> rfl
    rw [e, e, e]; rfl
  | a :: x, b :: y, c :: v => by
    show (a + b) * c + dot (vadd x y) v = a * c + dot x v + (b * c + dot y v)
    rw [dot_vadd x y v, Int.add_mul]
    omega
theorem dot_smul (c : Int) : ∀ x v : List Int, dot (smul c x) v = c * dot x v
  | [], v => by show (0 : Int) = c * 0; omega
  | a :: x, [] => by show (0 : Int) = c * 0; omega
  | a :: x, b :: v => by
    show c * a * b + dot (smul c x) v = c * (a * b + dot x v)
    rw [dot_smul c x v, Int.mul_add, Int.mul_assoc]
def comb : List Int → List (List Int) → List Int
  | c :: cs, f :: fs => if c = 0 then comb cs fs else vadd (smul c f) (comb cs fs)
  | _, _ => []
theorem dot_comb (v : List Int) : ∀ (g : List Int) (fs : List (List Int)), dot (comb g fs) v = dot g (fs.map fun f => dot f v)
  | [], fs => rfl
  | c :: cs, [] => rfl
  | c :: cs, f :: fs => by
    show dot (if c = 0 then comb cs fs else vadd (smul c f) (comb cs fs)) v = c * dot f v + dot cs (fs.map fun f => dot f v)
    rw [← dot_comb v cs fs]
    split
    · rename_i h; rw [h]; omega
    · rw [dot_vadd, dot_smul]
def isz (x : List Int) : Bool := x.all (· == 0)
theorem isz_dot {v : List Int} : ∀ {x : List Int}, isz x = true → dot x v = 0
  | [], _ => rfl
  | a :: x, h => by
    unfold isz at h
    rw [List.all_cons, Bool.and_eq_true] at h
    have ha : a = 0 := by simpa using h.1
    cases v with
    | nil => rfl
    | cons b v =>
      show a * b + dot x v = 0
      rw [ha, isz_dot (x := x) h.2]
      omega
abbrev Cs := List (List Int × Int)
def Hold (v : List Int) (cs : Cs) : Prop := ∀ p ∈ cs, p.2 ≤ dot p.1 v
/-- a sum of the conditions, read off the table -/
def cert (cs : Cs) : Nat → List Nat → List Int → Int → Option (List Int × Int × List Nat)
  | 0, t, x, k => some (x, k, t)
  | n + 1, i :: c :: t, x, k => match cs[i]? with
    | some (f, kf) => cert cs n t (vadd x (smul (c : Int) f)) (k + (c : Int) * kf)
    | none => none
  | _ + 1, _, _, _ => none
theorem cert_ok {v : List Int} {cs : Cs} (h : Hold v cs) : ∀ {n : Nat} {t : List Nat} {x : List Int} {k : Int} {x' : List Int} {k' : Int} {t' : List Nat}, cert cs n t x k = some (x', k', t') → k ≤ dot x v → k' ≤ dot x' v
  | 0, t, x, k, x', k', t', e, hx => by cases e; exact hx
  | n + 1, [], x, k, x', k', t', e, hx => by cases e
  | n + 1, [i], x, k, x', k', t', e, hx => by cases e
  | n + 1, i :: c :: t, x, k, x', k', t', e, hx => by
    unfold cert at e
    cases hi : cs[i]? with
    | none => rw [hi] at e; cases e
    | some p =>
      obtain ⟨f, kf⟩ := p
      rw [hi] at e
      have hp := h _ (List.mem_of_getElem? hi)
      refine cert_ok h e ?_
      rw [dot_vadd, dot_smul]
      have := Int.mul_le_mul_of_nonneg_left hp (show (0 : Int) ≤ (c : Int) by omega)
      dsimp at this
      omega
/-- the ends: each goal is plainly zero, or between two sums -/
def ends (cs : Cs) (fs : List (List Int)) : List (List Int) → List Nat → Option (List Nat)
  | [], t => some t
  | g :: gs, 0 :: t => if isz (comb g fs) then ends cs fs gs t else none
  | g :: gs, 1 :: L :: n :: t => match cert cs n t [] 0 with
    | some (x, k, L2 :: n2 :: t2) => match cert cs n2 t2 [] 0 with
      | some (y, k2, t3) => if L ≠ 0 ∧ L2 ≠ 0 ∧ 0 ≤ k ∧ 0 ≤ k2 ∧ isz (vadd (smul (-(L : Int)) (comb g fs)) x) = true ∧ isz (vadd (smul (L2 : Int) (comb g fs)) y) = true then ends cs fs gs t3 else none
      | none => none
    | _ => none
  | _ :: _, _ => none
theorem ends_ok {v : List Int} {cs : Cs} {fs : List (List Int)} (h : Hold v cs) : ∀ {gs : List (List Int)} {t t' : List Nat}, ends cs fs gs t = some t' → ∀ g ∈ gs, dot g (fs.map fun f => dot f v) = 0
  | [], t, t', _, g, hg => by cases hg
  | g :: gs, t, t', e, g', hg => by
    have key : dot g (fs.map fun f => dot f v) = 0 ∧ ∃ t2, ends cs fs gs t2 = some t' := by
      rw [← dot_comb]
      unfold ends at e
      split at e
      · cases ‹g :: gs = []›
      · rename_i g0 gs0 t0 h1
        injection h1 with h1 h2
        subst h1 h2
        split at e
        · rename_i hz; exact ⟨isz_dot hz, _, e⟩
        · cases e
      · rename_i g0 gs0 L n t0 h1
        injection h1 with h1 h2
        subst h1 h2
        split at e
        · rename_i x k L2 n2 t2 hc
          split at e
          · rename_i y k2 t3 hc2
            split at e
            · rename_i hh
              obtain ⟨q1, q2, q3, q4, q5, q6⟩ := hh
              have a1 := cert_ok h hc (show (0 : Int) ≤ dot [] v from Int.le_refl _)
              have a2 := cert_ok h hc2 (show (0 : Int) ≤ dot [] v from Int.le_refl _)
              have b1 := isz_dot (v := v) q5
              have b2 := isz_dot (v := v) q6
              rw [dot_vadd, dot_smul] at b1 b2
              refine ⟨?_, _, e⟩
              generalize dot (comb g fs) v = z at b1 b2
              have p1 : 0 ≤ (L : Int) * z := by rw [Int.neg_mul] at b1; omega
              have p2 : (L2 : Int) * z ≤ 0 := by omega
              have z1 : 0 ≤ z := by
                apply Classical.byContradiction
                intro w
                have := Int.mul_neg_of_pos_of_neg (show (0 : Int) < (L : Int) by omega) (show z < 0 by omega)
                omega
              have z2 : z ≤ 0 := by
                apply Classical.byContradiction
                intro w
                have := Int.mul_pos (show (0 : Int) < (L2 : Int) by omega) (show 0 < z by omega)
                omega
              omega
            · cases e
          · cases e
        · cases e
      · cases e
    rcases List.mem_cons.mp hg with rfl | hg
    · exact key.1
    · obtain ⟨t2, e2⟩ := key.2
      exact ends_ok h e2 g' hg
/-- one branch: ruled out, or gone into -/
def chk (gs : List (List Int)) : List (List Int) → List (List Int) → Cs → List Nat → Option (List Nat)
  | [], fs, cs, t => ends cs fs gs t
  | F :: Fs, fs, cs, t =>
    let f := comb F fs
    let br := fun (c : List Int × Int) (new : List Int) (t : List Nat) => match t with
      | 0 :: t => chk gs Fs (fs ++ [new]) (c :: cs) t
      | 1 :: n :: t => match cert (c :: cs) n t [] 0 with
        | some (x, k, t') => if isz x = true ∧ 0 < k then some t' else none
        | none => none
      | _ => none
    (br (smul (-1) f, 1) [] t).bind fun t' => br (f, 0) f t'
def pp (x : Int) : Int := if x < 0 then 0 else x
/-- the numbers r are what the rows F make, one behind the other -/
def Ok : List (List Int) → List Int → List Int → Prop
  | [], [], _ => True
  | F :: Fs, r :: rs, env => r = pp (dot F env) ∧ Ok Fs rs (env ++ [r])
  | _, _, _ => False
theorem chk_ok {v : List Int} {gs : List (List Int)} : ∀ {Fs : List (List Int)} {fs : List (List Int)} {cs : Cs} {t t' : List Nat} {rs env : List Int}, chk gs Fs fs cs t = some t' → Hold v cs → fs.map (fun f => dot f v) = env → Ok Fs rs env → ∀ g ∈ gs, dot g (env ++ rs) = 0
  | [], fs, cs, t, t', rs, env, e, h, hf, ho, g, hg => by
    cases rs with
    | nil =>
      rw [List.append_nil, ← hf]
      exact ends_ok h e g hg
    | cons r rs => exact ho.elim
  | F :: Fs, fs, cs, t, t', rs, env, e, h, hf, ho, g, hg => by
    cases rs with
    | nil => exact ho.elim
    | cons r rs =>
      obtain ⟨hr, ho⟩ := ho
      have ef : dot (comb F fs) v = dot F env := by rw [dot_comb, hf]
      have go : ∀ (c : List Int × Int) (new : List Int) (t t' : List Nat), (match t with
          | 0 :: t => chk gs Fs (fs ++ [new]) (c :: cs) t
          | 1 :: n :: t => match cert (c :: cs) n t [] 0 with
            | some (x, k, t') => if isz x = true ∧ 0 < k then some t' else none
            | none => none
          | _ => none) = some t' → c.2 ≤ dot c.1 v → dot new v = r → ∀ g ∈ gs, dot g (env ++ r :: rs) = 0 := fun c new t t' e hc hn g hg => by
        have hh : Hold v (c :: cs) := fun p hp => by
          rcases List.mem_cons.mp hp with rfl | hp
          · exact hc
          · exact h p hp
        split at e
        · have := chk_ok (rs := rs) (env := env ++ [r]) e hh (by rw [List.map_append, hf]; simp [hn]) ho g hg
          simpa using this
        · split at e
          · rename_i x k t2 hce
            split at e
            · rename_i q
              have a := cert_ok hh hce (show (0 : Int) ≤ dot [] v from Int.le_refl _)
              have b := isz_dot (v := v) q.1
              omega
            · cases e
          · cases e
        · cases e
      unfold chk at e
      obtain ⟨t1, e1, e2⟩ := Option.bind_eq_some_iff.mp e
      by_cases hneg : dot F env < 0
      · refine go (smul (-1) (comb F fs), 1) [] t t1 e1 ?_ ?_ g hg
        · show (1 : Int) ≤ dot (smul (-1) (comb F fs)) v
          rw [dot_smul, ef]; omega
        · rw [hr]; unfold pp; rw [if_pos hneg]; rfl
      · refine go (comb F fs, 0) (comb F fs) t1 t' e2 ?_ ?_ g hg
        · show (0 : Int) ≤ dot (comb F fs) v
          rw [ef]; omega
        · rw [hr, ef]; unfold pp; rw [if_neg hneg]
def digs : Nat → Nat → List Nat
  | 0, _ => []
  | n + 1, x => (x % 32) :: digs n (x / 32)
def F0 : List (List Int) := [
  [0, 1],
  [0, 0, 0, 1],
  [1, -1, -1, 0, 0, 0, 1, 1],
  [-1, 1, 1, 0, 0, 0, -1],
  [1, 0, -1, 0, 0, 0, 0, 1]]
def FF : List (List Int) := [
  [0, 1, 0, 0, 0, 0, 0, 0, 1],
  [0, 0, 0, 0, 0, 1],
  [1, -1, 0, 1, -1, 0, 0, 0, -1, 0, -1, 1, 1],
  [-1, 1, 0, -1, 1, 0, 0, 0, 1, 0, 1, -1],
  [1, 0, 0, 1, -1, 0, 0, 0, 0, 0, -1, 0, 1],
  [0, 0, 0, 1, 0, 0, 0, 0, -1],
  [0, 0, 0, 0, 0, 1, 0, 0, 0, 0, 0, 0, 0, -1],
  [0, 0, 0, -2, 0, 0, 1, 0, 1, 1, 1, -1, 0, 0, -1, 0, 1, 1],
  [0, 0, 0, 2, 0, 0, -1, 0, -1, -1, -1, 1, 0, 0, 1, 0, -1],
  [0, 0, 0, -1, 0, 0, 1, 0, 0, 1, 1, -1, 0, 0, -1, 0, 0, 1],
  [0, 0, 0, 1],
  [0, 0, 0, 0, 0, 1],
  [0, 0, 1, -1, -1, 0, 0, 0, 0, 0, 0, 0, 0, 0, 0, 0, 0, 0, 0, 0, 0, 1, 1],
  [0, 0, -1, 1, 1, 0, 0, 0, 0, 0, 0, 0, 0, 0, 0, 0, 0, 0, 0, 0, 0, -1],
  [0, 0, 1, 0, -1, 0, 0, 0, 0, 0, 0, 0, 0, 0, 0, 0, 0, 0, 0, 0, 0, 0, 1],
  [0, 1],
  [0, 0, 0, 0, 0, 1, 0, 0, 0, 0, 0, 0, 0, 0, 0, 0, 0, 0, 0, 0, 0, 0, 0, -1],
  [1, -1, -1, 0, 0, 0, 0, 0, 0, 0, 0, 0, 0, 0, 0, 0, 0, 0, 0, 0, 0, -1, 0, 0, -1, 0, 1, 1],
  [-1, 1, 1, 0, 0, 0, 0, 0, 0, 0, 0, 0, 0, 0, 0, 0, 0, 0, 0, 0, 0, 1, 0, 0, 1, 0, -1],
  [1, 0, -1, 0, 0, 0, 0, 0, 0, 0, 0, 0, 0, 0, 0, 0, 0, 0, 0, 0, 0, -1, 0, 0, -1, 0, 0, 1],
  [0, 1, 0, 0, 0, 0, 0, 0, 0, 0, 0, 0, 0, 0, 0, 0, 0, 0, 0, 0, 0, 0, 0, 0, 0, 0, 0, 0, 1],
  [0, 0, 0, 1, 0, 0, 0, 0, 0, 0, 0, 0, 0, 0, 0, 0, 0, 0, 0, 0, 0, 0, 0, 1],
  [1, -1, -1, 0, 0, 0, 0, 0, 0, 0, 0, 0, 0, 0, 0, 0, 0, 0, 0, 0, 0, 0, 0, -1, 0, 1, 0, 0, -1, 0, -1, 1, 1],
  [-1, 1, 1, 0, 0, 0, 0, 0, 0, 0, 0, 0, 0, 0, 0, 0, 0, 0, 0, 0, 0, 0, 0, 1, 0, -1, 0, 0, 1, 0, 1, -1],
  [1, 0, -1, 0, 0, 0, 0, 0, 0, 0, 0, 0, 0, 0, 0, 0, 0, 0, 0, 0, 0, 0, 0, -1, 0, 1, 0, 0, 0, 0, -1, 0, 1]]
def GG : List (List Int) := [
  [0, 0, 0, 0, 0, 0, 1, 0, 0, 1, 0, 0, 0, 0, 0, 0, 1, 0, 0, 1, 0, 0, 0, 0, 0, 0, -1, 0, 0, -1],
  [0, 0, 0, 0, 0, 0, 0, 0, 0, 0, 0, 0, 0, -1, 0, 0, 0, 0, -1, 0, 0, 0, 0, 1, 0, 0, 0, 0, 1],
  [0, 0, 0, 0, 0, 0, 1, 0, 0, 1, 0, 0, 0, -1, 0, 0, 0, 0, 0, 0, -1, 0, 0, 1, 0, 0, 0, 0, 0, 0, 1, -1, 0, 0, -1],
  [0, 0, 0, 0, 0, 0, 0, 0, -1, 0, 0, 0, 0, 0, 0, 0, 0, 0, 1, 0, 0, 0, 0, -1, 0, 0, 0, 0, 0, 0, 0, 0, 0, 1],
  [0, 0, 0, 0, 0, 0, 0, 0, 0, 0, -1, 0, 0, 0, 0, -1, 0, 0, 0, 0, 0, 0, 0, 0, 0, 0, 0, 0, 0, 0, 1, 0, 0, 0, 0, 1],
  [0, 0, 0, 0, 0, 0, 0, 0, 1, 0, 0, 0, 0, 1, 0, 0, 0, 0, 0, 0, 0, 0, 0, 0, 0, 0, 0, 0, -1, 0, 0, 0, 0, -1]]
def fs00010 : List (List Int) := [[1, 0, 0, 0, 0, 0], [0, 1, 0, 0, 0, 0], [0, 0, 1, 0, 0, 0], [0, 0, 0, 1, 0, 0], [0, 0, 0, 0, 1, 0], [0, 0, 0, 0, 0, 1], [0, 0, 0, 0, 0, 0], [0, 0, 0, 0, 0, 0], [0, 0, 0, 0, 0, 0], [-1, 1, 1, 0, 0, 0], [0, 0, 0, 0, 0, 0]]
def cs00010 : Cs := [([-1, 0, 1, 0, 0, 0], 1), ([-1, 1, 1, 0, 0, 0], 0), ([-1, 1, 1, 0, 0, 0], 1), ([0, 0, 0, -1, 0, 0], 1), ([0, -1, 0, 0, 0, 0], 1)]
def tok00010 : List Nat :=
  digs 800 1056298702328330579409198743889885965365395288577190981082771633705103986246784214993827496316206751072894974782603401877232173287633484566418492629441993486269643857131309238684326353064118814692351399875261611989540513038968751912091556675128427510582850425016509455458646861894629330759717784092566176167281611895852356204228213465985699331257424102304207314013780796760422807897936320670865661763588830997142952604380277804271989441159456123329232256366029404686976883381870665290079042602297190665627489372150691552541113619347644162354632052974254520794918224318050026272137997640422871046801959061360628212789916805595079819715314086918236364251447271866047034061239344010025455933495232338748690509265771084968684065904871229639241699573566721404092629153864594337187077363056171461122550873540109057567613128802281180377347401223730910181454476947542457943497745403260958703984290123704348359378731122338356347178016923934504267623689768737097573013450766257720909938616328454984730483312919115385019962465330430415927421271345287764462316786467201887147237955248026837813507174686517135696878782597597264355567153144683157809488088680296354223340108384941534986945174311153447301989520342286336 ++ (
  digs 800 12001093492223471951309284959820441701812809817238129155722408605960081122429386564831012515545995068818841916252573646624563569763887248655507594564479370655755801958138565709645758633992232360267708242724605036859082848805846818104443870077942029503925791065128783777407997392087797768948211257251168794662259648655832647447432144895077305574164425508918745446481764539134494823466585857134289163458499921969446159278928618679291514747795469357696370098935609047440119654526518191724660794376635556694198671937409758949928858865291868268710362516775686100528927997937119507327001244056037301370319485025655174818791181627942095031775650308928618319969321206415294830786280320768327862226179141211131284586067038882210088878035973252268929133409880417655782035711390548270657753086446695029074875804416200724510143535438135364510894680309268788453534741487219903433017741958349583682027955047653133447744432397420648898408549266062429896629000616911290713673359070167895620549171505208895010315975768410953248696931067557256879474367896538400017386678539808346143976883558275576742403914623078048408003491838981763087077647982193385333019915864298099989830295883062341207918104841967812804653 ++ (
  digs 800 1660628215931077714269358545884698113149808772789109824274987189092289902370121546853753212193711556305485499157575940227897317934976067765497412747479361030181016505843897749101695452794087967948595075678539854605450535478474031205000194104303716960070029048412351799337205035605219095383675506866934969102302934170325485056389958823390123988897373279976866786044573824944590778240287861257629261515956185992045457919331456398007248085397189388543421814490390829934787169435618788866951124009672479988281385316583189069554471455629007292100964226531713169675877140394254913263345502759471214582766794778376826507613164089621166293983743332042873084399647402158907217119082443340607720005933679176774056807226028065236510465043514437819766225949444556059301812324897213760026784244819918104446528837354105235008509134861632980841677582112748985961477705286684711437832788069758097764198846331133663892325510110677888426830631218361298596293961312017053612027306565604895175612104221026516027595558099450551682166284192272120157457481503432945108834778302436211967632967623473942789749351599794690702790317761985218689837305939960001178409405950476027122560277551929568068314748019061984499583704538975264 ++ (
  digs 406 3856844838189448498299108449478099720321547522622868865956613173355633601346948126438250562973916571954908745947726751405992433923966753607935947543606403983574539484164039659837961531519208007660272822795611884642382557777608360288022549206616660815167782500064555865346864278671000267534102939292948188100118971731674685057976299876468421079811566841554869436197825219640506274361044977058544670895076429340606669006894908595578543260358830108801065637907347159573182743464000777323290150202293912467864574442783293658071888939656706271948323993746815665003466022944289934487195546378498376336855332109213753)))
theorem table00010 : chk GG FF fs00010 cs00010 tok00010 = some [] := by decide +kernel
def fs00100 : List (List Int) := [[1, 0, 0, 0, 0, 0], [0, 1, 0, 0, 0, 0], [0, 0, 1, 0, 0, 0], [0, 0, 0, 1, 0, 0], [0, 0, 0, 0, 1, 0], [0, 0, 0, 0, 0, 1], [0, 0, 0, 0, 0, 0], [0, 0, 0, 0, 0, 0], [1, -1, -1, 0, 0, 0], [0, 0, 0, 0, 0, 0], [0, 0, 0, 0, 0, 0]]
def cs00100 : Cs := [([-1, 0, 1, 0, 0, 0], 1), ([1, -1, -1, 0, 0, 0], 1), ([1, -1, -1, 0, 0, 0], 0), ([0, 0, 0, -1, 0, 0], 1), ([0, -1, 0, 0, 0, 0], 1)]
def tok00100 : List Nat :=
  digs 800 16525108174986500759840606332617233513610042285628405972585553513199372026858514594050657452770030650315915108100604097311198088916080181844711077200726513564434306688335619025165028369937217544901159604668093779359678750509170684571984765835864091991323419995428058969128005317315809172396595790776501891830655424581722830460791732310904831402473965282939152470654533018558935414673251561485185253706750958829663166814596016250762781486773719316955608835603902231180149625811064920359382112053098030636281394737763870651880225943343445294984372293670325037403826839586764707766611714403111019289068933084720274336258540509176182289152188673472770697368108628875132979756282327932343683703094698706448980395134616790669086993824140444985356078249413191714692315310414803363393295066599566829756425146150816322107465264783166877153449728302842365939085921595632572115898458563406697499783600535283049269648147387727026284423939282335852695348835452862142982472889623700177276397905167971444641376882289012953111907304565687648884620851667719049514251909982519961162110394928281835075487897043636991648699144650102291259036144234778260138700945848980127875990238987580012252531457683979071441547699453952 ++ (
  digs 800 424830741942996277824954679792002260164787391759142302524722096336708373036046668157554905677839879384997938286132394470338626031567145595382515591666802555414884979543109135757252997488106881236070818956362973495802409398048798326361888672098033662988768657553792906574046266770536106691953201691715642596040267019250624689398098540383279148922112327746573306301952315955547117426021015031780072865353692619072378573970377701556576296980875126110077541125832253504577602665082857800653066060097696736524251597501946504949566608120836738805594414497006580719853095386774024521055432907200401128675897503612091807718995992145123499832220783796073368082995424170110805105925559070723076100582053929141917984563029911645773026117164458700677222074346330764584140898291986551783980537211909136107493990358509602244439008446911833111903031061417233353268803246910980947785562339988767054094823450331811554617425744414200302696838874089640560319551540371821794957584356654003038668163071283859918398771035933963461832322044586495551598464117696911508168964596253872667368698867870247657849426872260277684867385481565427599183595552773558736281311832371247744279888558021202012145114276794612169060085583085569 ++ (
  digs 800 592979527829408089960105393099563731196820749596515565995743382981383683148070985940291141395802970948024810956364775147569876058609174913866279679437775578936610972227094005420909243996266627341787228411385380102562102524675742164147326981587273142279190585434034341426989162721282767096462001849412018506999139501270447556779714630942710062101057697648094475048962575299470996880559766075369199303363004180178746916043090366887207745118700644705923830957939338330531617292678068189374468794621101418981602976022769510789058994919482198845604782944546620216830155474567579362884912010296356112475209657534369005187055095787590881840623864007688035995060062383095319307434095456175213586115229952724628149886404570386132068514591296357441610264145817627450077999776434585889495955498226225730917323021277421410480784341683829860415654554077503990857573431450312354712987471573803922954804321088949351097707290459103819577086451186528672997024539636686611697308546915103961586839663478137431592555253418511264879638550651216082745385850289964745175945182268192854994348449529601311248751000611804840900782462266883897462971284041724313735993209241963181594658540324985888172590242147781715014232006788675 ++ (
  digs 800 12587504715190931737669517834776822102126423005118281002244524250956517693115384536127035386289905854261227363011893594892265936465647887951118442725805272645233728361474018549913821122469358714489685434240421383188748887977628366726761436744202227803391291862231367228013032660660128051979310399593112408594561197466037761568290255280178306322270865108216457857802630872741971417487070241407616671251148317129087592861442966401978236470069469229536857139260733466974849769834264600460711610916409272070229294592125604359037421036439413777471960527623428601182624917715050775828652320503743114997688157031917565734215716422041459495971098647791057996007332696421830827225676777459817623965049665073805432516850932590707980844995854450117547228154737068814486770336226069694489439309504951966325913349742651378400129713554179725040196475477400274662425114125120403333934343226006924938777487288521034922909547099992588977383967510369011921216654017681233348085897382640950898050694934087292850284160636522796707445213417763122333553024816851052812027433882289053870998097762114894265495205107084568190094275308025801637266505712223101358449842447411759112920323163244556270316535486999974950256870432 ++ (
  digs 345 59160322409900102339937079333862310035218513499358645770652761168512996491992423834920405495199435852724857063396861427589810399037957454070190936449604719839877536897791364244697439794120544745592784909591726901601259830202275551277275366753801074555226497486166191989374264637541668313903202931599373621925068937918150396110033223624658525351648530929514160170017318074496775230909767796382550775445938937297628144599457788722805719302298198169893841165958499443229057661050502314076836549172110419651968719803960385))))
theorem table00100 : chk GG FF fs00100 cs00100 tok00100 = some [] := by decide +kernel
def fs00101 : List (List Int) := [[1, 0, 0, 0, 0, 0], [0, 1, 0, 0, 0, 0], [0, 0, 1, 0, 0, 0], [0, 0, 0, 1, 0, 0], [0, 0, 0, 0, 1, 0], [0, 0, 0, 0, 0, 1], [0, 0, 0, 0, 0, 0], [0, 0, 0, 0, 0, 0], [1, -1, -1, 0, 0, 0], [0, 0, 0, 0, 0, 0], [1, 0, -1, 0, 0, 0]]
def cs00101 : Cs := [([1, 0, -1, 0, 0, 0], 0), ([1, -1, -1, 0, 0, 0], 1), ([1, -1, -1, 0, 0, 0], 0), ([0, 0, 0, -1, 0, 0], 1), ([0, -1, 0, 0, 0, 0], 1)]
def tok00101 : List Nat :=
  digs 800 1248689436730540446107360897871855083948672844045133675858481949023058904456064844854551073778933579556581558775283552322822708337770341580427963878659449603801480290377404405549981084313125148939074110473426928643460128586710562017211540993090648507831691414903934725465928459041663224349140828025280732951710684134000126553501091218357256133189995337278957848602943896282597958622579635886842714232743506196397299368890598366395395510701368122615145029311669473378642661793967241774782348025109117350863451650126130007263451952819440767907045528712501412907701245545368137933403799091318683367569538129635458631675831913790366538931986268568700535519594829343823373390581627623689623547474363013193444755100107460463102313275851436523055449194253608813187125629206324799800678728801018191085864917276797380636576018984974214454744192360279953262598319420579117376974711756919648276163071393490101458005961043724999852413284887904485594364125359068063292999094075143836978936398205400499578710433908097012015657597219738238757421541430558397618505778677674329395714832577007183128616019144871419995289678115253637646966596259191918959731491689827639126949020145162175118595589523657494387828443815380033 ++ (
  digs 800 13300906417533938198385556351235029031855180072325217812866906006781654385636736433546420692024092234113731478983851074597849189046241360201287414093765842951411853556532290392386907951388647087528385633378716041948159725195050729170939570590999654915052134718145544134993057012462969078813922458420327401898081563735565145326677332992138369560407823624647178586857980474228894320990614455550797354976436831254438449766848487247763291016282134545687791075933762143794523988465464776669815653514956094416526149349830811016874550629016980749810554314012176409519560176027699031969834939306202439561619656560159990321570663856124028266842103322976899527973181725831034677813289876641360781078351039013017267354855226196992507057209775858193510810081252455911570238161042161947782362129685823365521155343976417538762191220705170177383576963342916244094273271702710491320047004894446738518916005954190867881748215539448023582641819512614310944962434678323823004616144574673536798128695247275960659019721947047513614893040157406473571872200774407611811228507030639836310170453848754824921633480182034581863204217905311321454515179754291052153910879640678909071500225459736847171229544129671124751580020122699 ++ (
  digs 800 8689736301109851432500837942883826088535186738879941260279964752187099552000248911059088379016248892479335654715984776317933453066702089299285817654989234899008396337115167393289224816093872104639379450847107190406747471295402040568807164737416427970246238349532592589588187968830145078897329794552417011669511536314904394319140174387625975327398866500063011131537597435473070573927217568332793863855698165636846671690931555574745297366005455920093059745356334264007386556262362746808978259902802144377861806618005193359147671445435217012433305511892165626225147473348069382224647441285110114388730984810683248419942562074340997625394655527893477926637041744814102258881527264165804213019895492347733945223715266347382668316375054462650174881556873091905916095530509958373745630362012223289846044679587772638677336485690583554859148822247223853694577978014139865014605939408901777413193978986511282411205403455764513874277253524846509673339216229191638737470034152720221867627039356996859224918908213485433437180354438426981970538072328985490606126077211932707156506661910611284073473802864128053182565369033578026478258248502305063397533785509765361550812164281262308880467246172951270479452308454244353 ++ (
  digs 459 228668943605225255665231595885282528541381907637659681653461854061948524226050045425125335604747269685973653149729499255124028700579705684171266533157567592323017656556138971473149120778224075574811602916411282026544485573091700477792800506088516203659423526900797419499935901457874811128774038330620868151770202727160144206260166163615464955886605302502397153252387480259962345119826741662535657872746280442902705712794101980502725153856192407693231992367715227870090773174777851795447888867870920235761541723798560808054308663112596442980202066475953350086711232989929558902631510686784691767864564808749490879943106619422628359898673407480401054335455404193807534890020193218414326580833)))
theorem table00101 : chk GG FF fs00101 cs00101 tok00101 = some [] := by decide +kernel
def fs00110 : List (List Int) := [[1, 0, 0, 0, 0, 0], [0, 1, 0, 0, 0, 0], [0, 0, 1, 0, 0, 0], [0, 0, 0, 1, 0, 0], [0, 0, 0, 0, 1, 0], [0, 0, 0, 0, 0, 1], [0, 0, 0, 0, 0, 0], [0, 0, 0, 0, 0, 0], [1, -1, -1, 0, 0, 0], [-1, 1, 1, 0, 0, 0], [0, 0, 0, 0, 0, 0]]
def cs00110 : Cs := [([-1, 0, 1, 0, 0, 0], 1), ([-1, 1, 1, 0, 0, 0], 0), ([1, -1, -1, 0, 0, 0], 0), ([0, 0, 0, -1, 0, 0], 1), ([0, -1, 0, 0, 0, 0], 1)]
def tok00110 : List Nat :=
  digs 800 14094511618997504497158241490852447996744561123236692772315479327769869086469912586811239982812594479259837457538654361831060792588682797727352573388969257788958596968743453978864334669073093855405631961137960772064828305340660892004109161488555618593564410967663768770998290835822788922882660015457607833155033458679260175487832465012643112154545589888614248727865729691649238513332442078655664656129930327770580306811626499886804537091149053778373345507891219124748988719090367581721829324697786084482673810199939820828996486318599054251833945900574657842333532106100704183055685197232817254208517330596656349090807675991617004587021467072694922002219617583265398017043075207276508592792659114371875438876136539816090601600949257526478571242149987858013707439323761891442664634232482141722916435093043643889682401933887014833121861854423374212773766475023264934128312871952907635699562096869394016160589956892942214694940127925716661674519538815638372554161751844959751779510049081109698691086318059381052367113834294483703004803745414171372616151798867545795162071555310548936601493830346297846282484851913807560418096515215650186374402939656018049925594724837620205592104091922039443375665071554560 ++ (
  digs 800 670218049000905054238727125354131681866314914595717016734290474690702467066614619438849806990917132918424022037442487947313785653816375825907108376700378040690154669089327898859232772776597005649332366260185753641478208022000408910701154342477186691306735189997559006932996516176193912321679751211519768249074876981360049692755178210869455160944913007355384562183976736543638767092799878616265415630185290457097949572123843139357798894770772800621896367699877830072363158720025294499183027715915659314872685067415217124850759111994707495152650649213682328423331042803445039466884609157540641658475828995498740637126878922358951476323572673899909562144972517718137743652275957661896359112756495687197518549038733170703651201842704775839907631218676170632532519697119742253083905837774408946824464263332783181206435303815374049816355917019477277497221318435111812372070299635291636802594617991594230542157223501996730080151300608457198732520042799890081012880016764342173512192330522792957061583570196796994852108764638831945380081794039437754789308715912968831391261024748379842482657069043247401295505004470307787869882146273314644304999471208441913050982109973810590762271509211602310618519904021941281 ++ (
  digs 800 16927392139421007509057137199311316209619368229267257019917733884682823844032813635556784602636922802095062280901772940988134200033240815819466476450880320229673351192524042468453592844662792400919659470487000044826216975887688465967160154446566044226427636764138057587032208550067099104288217689396284076712983180433558866372458152109473141578901709553021080431743583683076380216120203756997420361553877776187178382022869192060419069964314690700730566514811570994276285799895849802296851538008161711085786792877183492242018684757173823140601634955690468198132352985508608028787401986081969603800999444706267186548650738216429624310790877193285899032978056657250957110660915696287273550901578026742781039604632885011818264702133813937902867307335413531706430737995870683495562298794990567368358220162682270912328093890581267541166819126158454451411342073342780593488270067236750132303020587130732155191488027063980777092295271203692069328007629972966675603980599580168958171445828657317439939415778587262871766109871761304210648256933052917796693352898040981090538196966174909641623248839107597979323455819278647676446724223240854119611415220488403300832065429088942530914205989548399668919493794530336 ++ (
  digs 615 1453866998332670643311482287510283108246985661304015043222899691192428235454541410238093367846556340475837954457255389003070125720820685744172092757338709362616732682663174476090530575471322479357070562291017203939855899962285910563439996456229836052937156655162445703437614354136343650417118214495515244221130420744276458082995575310220945767930582455111022031358029357549580629092483686841152509903493947195170533559349455433946615667156473934014092490896349535590474994851371811481173401353158625743846057558059311826305085594657436365566221629639132558801138144889731831681956090236829365190880412359186177884467675854354115883727760737090321149754350116830121645429964687497168008640161854405352331881100874608386065266207562917583568534880282514224772527004211623407365225447429474099450439660329808113299495615085500567947741041680713605444322890385108468768681798731275559005026750416022468106770530982570087626604545)))
theorem table00110 : chk GG FF fs00110 cs00110 tok00110 = some [] := by decide +kernel
def fs01010 : List (List Int) := [[1, 0, 0, 0, 0, 0], [0, 1, 0, 0, 0, 0], [0, 0, 1, 0, 0, 0], [0, 0, 0, 1, 0, 0], [0, 0, 0, 0, 1, 0], [0, 0, 0, 0, 0, 1], [0, 0, 0, 0, 0, 0], [0, 0, 0, 1, 0, 0], [0, 0, 0, 0, 0, 0], [-1, 1, 1, 0, 0, 0], [0, 0, 0, 0, 0, 0]]
def cs01010 : Cs := [([-1, 0, 1, -1, 0, 0], 1), ([-1, 1, 1, 0, 0, 0], 0), ([-1, 1, 1, -1, 0, 0], 1), ([0, 0, 0, 1, 0, 0], 0), ([0, -1, 0, 0, 0, 0], 1)]
def tok01010 : List Nat :=
  digs 800 402738707828421360309298752748169040108301869389126909789409305356556601580574221715650980972570379376161172422656739677402398626611844410336626499087804322220695646703399609769884531747432831224536236843635703241296696760509096578946048184894322497489718250562406260119237923139423573003551224265159644261571160052331724686970973007139517279080100104158218780566598181732252540136667090612892345271740154320765196673486931676831761873259936932019694014854805200816186106360099347747005522218704804042088631821274061034326537689004179642593729972982904795605776374921726940506179652212954596094601160598212932325400083259197884411709133952467122562767521742194661579698827604515218279126919871303593036506522163846445303695503171628603124112080822232324775550643177366855545125947111773695260135494710579998690839381754331580883607418742209237852401973523259145506726987274591390462766668610564349124273831513788232370302377928410137659620343303206415196600421479369130566487383515667689618757659011047984405234768958019218794000759864437056341451034924988071607796541790663946816856463055161184873740589209674656270795346835892055775256422006027426599524500462960876662264722084696598668324359929856 ++ (
  digs 800 451375572420622602183405911075316276083692419819109045096250864733697242105598844956513463515941414900222043180730394765532646784860414776412333255596098725957304218690374000416321834540034057339852938430953518432722183994089500802319618361212817473096870816646747866395946359899494273969242952101907905596013963627087566218950182423152202178951353610687430029979777226703015917983731924406773143198031289627869450157881180052705610118016365544379607577122243001653535828520102736385340934413164315287065782635187611369670042857904077179484419566375705692492778902305043013778900755155267309056527735303085680737260084323688869880533011724466387975989230758176227311482317321108492095988949873650876279585335268997292010189262009939145623204415503519083811911432316674255570905179834446973315624337531260113708599422504876735333016913569918041001427192537256361647719898413035835866961524941275395755430069037857524548700431430061357057993824412582587932961928122347924142828022115656351295521179196088791226242632439940807726444089596808031850055497188455552693081806289188403511088556687054722717510965532324014679234860673489787672928359216873896304578229639854608995285005376411943519603604760593473 ++ (
  digs 788 357704073308134482825191093671381830001556000863626060547096172404544184260155261822820266942283108009187008311108957350368941213558699484570815701077536276775205262834878608272899021203546563308537754326222100025912254162165957492556538971044544616932896145950666536239615700547800284060802494364588901926887171901915557629757174897891079467787851714439508856223423962994510112240657004601283333254169522735676147152291415813903495548149938495459579654260033691707236427329469990025027995361772476962549914704124934062206848705996214223766556086145798494450808214301312655146438260110376128363532472491221777393049398384164401223411629773324949049270815709310188063881323215989784124970505273456419844088738393847237487647143132160838276050885424062725700237585988270434809628683763087366023419294828448771361719243281854329992764018692096120529027218196777035488544066076358161043062426686813732902229495337285333585714757025657928338079192331392847690031687331340528032045599035817101029594135565802797584789633365988173392759445129973335623911618253233095264377035815922871415279478797044736522105248120984828716169662531874356982240292986769277674169244062342283847428437249654816))
theorem table01010 : chk GG FF fs01010 cs01010 tok01010 = some [] := by decide +kernel
def fs01100 : List (List Int) := [[1, 0, 0, 0, 0, 0], [0, 1, 0, 0, 0, 0], [0, 0, 1, 0, 0, 0], [0, 0, 0, 1, 0, 0], [0, 0, 0, 0, 1, 0], [0, 0, 0, 0, 0, 1], [0, 0, 0, 0, 0, 0], [0, 0, 0, 1, 0, 0], [1, -1, -1, 1, 0, 0], [0, 0, 0, 0, 0, 0], [0, 0, 0, 0, 0, 0]]
def cs01100 : Cs := [([-1, 0, 1, -1, 0, 0], 1), ([1, -1, -1, 0, 0, 0], 1), ([1, -1, -1, 1, 0, 0], 0), ([0, 0, 0, 1, 0, 0], 0), ([0, -1, 0, 0, 0, 0], 1)]
def tok01100 : List Nat :=
  digs 800 8264924042554795350204313182742926787991629328008521328459304685501188283973731345482794266268377926115130990967790247032517189201871573959667186619822398036506692095525659601734148306713809967107661927832260900270383882522473269064898684815487990561342069135081999262929904354623328449814341663938681665036959246478284771893515709420288207737031744984111909284375110789697377763418912095952716286102925888329038906593712237767509858575590691199933491131097057115691684223675118667882458556300360464853833471566885879293865313516018618712251607988722811252286508991750551926162064276874812442766956365620237160480113765877503859315206557640685086128211657130908012687967297114583589680486650210596929219081072081501111420923762247773562018710782113719726123517417745557311319883566191190591832155306151765917802220126826439813994679324687266405750692825701425488903435169095061580335614884174082612228313851114433055211484950580174250698977198803159989449143635521284417541397592334489020896572247702888262520685139006258867471288373440728748564920629966527326884266102581457099223393469893723659453024248547000183206479936763874901078982422014772488932211233071196925399745299224269093602035012336648192 ++ (
  digs 800 12886852152536821693578620675920280037961070978696250903508885941575001608848286039763618144424491468280181975963288293586168099170812044624260427733866736241473133192718311308053792691151197794074383465532719427928797927445064999096261731230317730795489875097651893191892597948774851343724454252080464984194764310424439385759317952899315511921497460450510273657758509881926611712474996744675492476246240715489900356284691474793129740351655889209604276322527678231241578771031629479736972666356931603027785223632389303411427837437239591720492569246433224361568112184223733927219075810188027237697675554410001227627684489874399549384551136943595793290957875359703963619281963604500298353107798936151433181633496464822843788515094472630493926956299848018535199507278731533662121877812452081769108936116210483501921477104656588394452959303806567141854452412138746303643138782952578877685282026188474285072494515424170738937345087022102396944499250218099154103356515336396095758810094727119800182696974089781963043862906085540782599172944277543804630491683354771949857048409911228409720254696741145768620743715168809524781954077721170065970850139320750154275708748084337133343190501455115179143701653914625 ++ (
  digs 800 18530610248046727378330624237084746992698332919960878564559661649729805941222301601639453239790613730701765284919968107940071663815399023580969183596332164243484225000440626985795741528564526670577159676079917322799900225419227382813629349149334117494626204681477333155067413999801704747770128073148608265515802794878880343157359284022784527508387671046317045579378535789571526918347940522291635738151749884383499079808476921474478588927268291261665372066462590460543059409760781887664729308053369579663021167764560059420006301044924853085860405281836825563632808856940189513280862373830570350177816092250111004907230782021224208901657935803913117282738102803293711661837101943914971082570185372949016330503560192177488688845505023871507258539825047524137894612661421496385645975337650947452732820419164504112889383288152339109577166136388588118347283260545770197718035286612330503678835942670389388731742699007148781152335542117081080797472451906738636523672274154503844346892516569730896375494113135628538132220519573523923930021069560146205439747877802865480999349202909635148373700295088064883462648812611286235562586224803674825913331393777163168550436406670640819831592628617184648283940659202080 ++ (
  digs 800 412341493375511529663929845504899796826945082783217925170372447562257159073033802783632161641205965521044325420237886010128788534459463420770023619206705031989186094243750567191607329084898282203965009803676303714885412704295323414338119003637895521009056751354152242767478947307657346526002549966040297975185282019978261935834627044824620515221252637704631176908064449200610282231569226026200886222746891154477746475777925311983735730123277610759472011797858901825093458760891636379797924251526269873702145961354628975140958661565025491341428190744154413592801691766074409777976122995294673814301018389517954315035123980211297708090297987607630496492983960590491765242388354720017376608931570776894000775195245840576114618610897422336249138122427476116149596551563867694498975700755931510450980783453362751540377324088038920475827198237676279172150133535217887800186951027205987455868953162373165943793165771203305771461920468834139321509935770086000543459386338980939951470857683361477678176667661872170211044969505690976697892725845349052137072001110869428527938246000217299959735887721911648614300435643888248772913348183214453659486366971425399743961279337539403176436905626817844187936602155157537 ++ (
  digs 800 30996330929369533685726329046805082230721384548785454383783889866314461357613102319724487877760365492260321757755627695989875224605971367106857686989094785489847909788683919167097858526754966194487342870733151856808256565987187171437702017635426608097739010228984009842323488189722367136252293714307229782859277224722462053010812119220186102960422991332990362146381138816068590578410673255878780360318833829675440279938463829078272276341575300948424641848364543927930665845957679863292534617457163922306615234906736903699443031903027903576804877968765922798745908519001926862656435466681497190004674886745491659890339748481365273315483741901511639857846873415609091534143974842721963829557147533438963579780388407201366421579422355041440644237689735127262170009300148099443660529041486484648698542895312680421780064836433586436713098137503450802390976025577872153023423650793010046808498485491854532650831941909265686195098794657899047527013750457924131505040065340185905201143223274880102911657163589479257833833764651963351423230793865593849930793233076322704401267591192952300217781622386338534339810645119864727372892078114272948505911255434274652695959402192001562957042226857852954558944425018690 ++ (
  digs 800 12889604845917520986045218830879523731750611069799515196727421222826588079418799639278215613744166713174731916989643179461403376887055422897425123794467023328402266836739530428279577499999265866608452746631332790662616903487006605845474388302734280986548044562315366038083281800487236052930035713994055392573107183955009197113982748715366530527701946081175873821152782154903082286159042734727307037669248466761538537196801575024862375839425200406926328261185027747925856677645200165764792282911507587650114248277139467542396293719110562100991781818492442808957854350322091161110326653806102275165496992575702294785269188793146674213290814803734453185776768793523929386290114099615349560223917387736009936396096793279266894205114158047402720553274690468141622784910499153031956001510055998457978317111398081831970107021703611016165175928588639217867369411293018877366451155188428623922289781426700137765588611872612790210726606996619745567199860517498124622984974154250451065087752620447826417086902684934857779816992760338229452723212214806661257343576571209803114159943708174226796502063424762535534525292255510441613703597961957512280979366291918082787061289109352147223428880540518689147640170414081 ++ (
  digs 381 90662930289360282886350864956714352623696824790364993203115274786930773181667708440214500085475542112130920170262441558153530818002561809670041435882561514883059937399157045769410041610376745862807166644140319189628638665908463442488093723821781829100709070891463497361179379646447894177173480965937659526167775038309178024449952672917746646599259487965442255945101582705976960361458721517517244509185112194138465498592043290135043625211400336731695677038989615844012919627704012899423825319157641494538209024768201444175173643601297373960609804985680167207656013830719520))))))
theorem table01100 : chk GG FF fs01100 cs01100 tok01100 = some [] := by decide +kernel
def fs01101 : List (List Int) := [[1, 0, 0, 0, 0, 0], [0, 1, 0, 0, 0, 0], [0, 0, 1, 0, 0, 0], [0, 0, 0, 1, 0, 0], [0, 0, 0, 0, 1, 0], [0, 0, 0, 0, 0, 1], [0, 0, 0, 0, 0, 0], [0, 0, 0, 1, 0, 0], [1, -1, -1, 1, 0, 0], [0, 0, 0, 0, 0, 0], [1, 0, -1, 1, 0, 0]]
def cs01101 : Cs := [([1, 0, -1, 1, 0, 0], 0), ([1, -1, -1, 0, 0, 0], 1), ([1, -1, -1, 1, 0, 0], 0), ([0, 0, 0, 1, 0, 0], 0), ([0, -1, 0, 0, 0, 0], 1)]
def tok01101 : List Nat :=
  digs 800 411939172449001272318931231969652446898936144112807006967595104251096040549928338538181804674952282910160339697734754530318296503577847511063601330688123618333228784676761018961159315622740747467835986041079423526541973124998679962441967563949659892265072037373152873152214730910818634659706796791722293569722265606019030706010235257256561816332540023771956937472637004782413357536619434490992847282376307170853336207863558561651724428004734360539073464278080355588237685563608790962916949479809506980963632915326440210830431383314690677532593324929866798263244360124007205064743217172747088576222986531226150500719912715709733683399313251996041847288876887152767040352687092759644499678028515256627181866472970725207034547750794862656487067142913141544669169232009364592220241256674651458392485522954283291452151076339310965418049461427083750894379642063666031890462749936408860005377756493270581049173800059762349538800606549218215661252923034062396789102528875728193637017320932880091522761946287140591446482824299507704980460511054480450893950667812170240658760858671633673850598073628844620088446862187077119079309712467553394128293857276434486984781372803629270019124499755313655477070718627251265 ++ (
  digs 800 4145548837527332173378599121632904464753726929491537631410686836560656677712283363633326279513588762272024627660706909466441195547695781331912937807140850041915054550878602512748515817443473767084356565484681633525762074609127913431308628867742842563457567092529977239298441397122387285054895292320909782283739002700296069766524235745721239759198356343765172061447421853602764893746159985172816702899239051567048356924221867564178363468285805951088345585497178854435115182004538750986653329894239661238809328682033660989429280081947286724099469771298766566764846171212584203846987790716218666259711566408532312852331643146056121246017197019866865217766971912174691821922034438877063013325641730571818116334209290934730054283011701844133367753015614002258600081006540953879888144155655296131472418387105975974411453970675409612260113696781292189787103261211670962893672090244145048812443424430202672002472282422669892956232578177157769440709261581816129670128826404184052140541429655549558477325648358176513890249663155990655045990239870495178580878871979946156032208693028824223340019881999789172887548779654737686836519597992988477427880866738260566286492509823730294016766775865382078211632683650385186 ++ (
  digs 800 438099825907084761515091860329066041664394744959021975472427588135143842469327120998274996473039811927526020460789931198303747144309049449645110298443711659849826954335525712369585733406756375979810677472002386365615790326481694884085600142113014260564762541788589555885598898450485098922365080888010060953993048439026170745348255570718239032090051860958212151319507494413348185409161105637615862860443700388874020383521969065606074943134958830178552303312518903680330627320790866808948765211769637201231459065308525375503664264306927305951593607098451858169892511393893162672774015419583963436672341927443006248463164999579014742987081799068770017846228092134588701104958368783291875617336420849813920217489131544790318515386669181365017295625911819102233873157179773523557608189256202769763564743826073608559139123853342299205725760345842581237827282966802943300374563185948499582501801288909113326567186659131216684754634352761993106316056303993155956337420793948849499158025916123002027868254120717409862167405485585167994272960699438141720617872506489488499625505707028314505487369960846441668414877809102956522024613128474492069752517422455963963873057461522038837921595071138780414925637546968065 ++ (
  digs 800 448961880396719976344840229420759822539263561409762133924813871524454488645328818258902245810993017871204184368062273227419259729153907472279279821091391072649064336323688157490834592841368699491236858291969606139336889068911429034166813501537586187323647959121169237483438670510839923805043407082216716251794571555263285251342707179017707781757733573752060667308902745415018372470106817446941766921896682584589468026562510050124756021941009692697297351860947629437289090121181221530849894303250319790723221568891839959191441002218223796883785040330190891599503601763322363102701850252191356976476700325321559534542290572121411703109176017615147243685702792934120732517801454037538370174351151567797689501521988394883238814529854912269651593510193587189966652653299918923829764182261623071378676903512663387165000504958169413217051606248581225657779447845401992223997035304879013713635153156594508334198290762244976424616893125946683340019317379265106199642808498126918124458916283908023770072790430010994458696644316261264706300402131675856492390653536171008635925073225847146256802601158090801308163483152448739825535992889262004599853090268349686149981361119762330783805511288464506506602810438583297 ++ (
  digs 313 40486539705353982399334418275771750066661627235267312503767896231154707147063029862630458903733926896538162835002783859426117250044791482356651052166024969398221369325654815374823202312358389896282948827230832824282591535404737680824325880152782665977348331250606504189307053366446540871497760478048730160511632403027449342417135960737240419358540594119033922009598639215162639809229395845236870212043705299492322141339937061759801530911636044812949538719975197477177825))))
theorem table01101 : chk GG FF fs01101 cs01101 tok01101 = some [] := by decide +kernel
def fs01110 : List (List Int) := [[1, 0, 0, 0, 0, 0], [0, 1, 0, 0, 0, 0], [0, 0, 1, 0, 0, 0], [0, 0, 0, 1, 0, 0], [0, 0, 0, 0, 1, 0], [0, 0, 0, 0, 0, 1], [0, 0, 0, 0, 0, 0], [0, 0, 0, 1, 0, 0], [1, -1, -1, 1, 0, 0], [-1, 1, 1, 0, 0, 0], [0, 0, 0, 0, 0, 0]]
def cs01110 : Cs := [([-1, 0, 1, -1, 0, 0], 1), ([-1, 1, 1, 0, 0, 0], 0), ([1, -1, -1, 1, 0, 0], 0), ([0, 0, 0, 1, 0, 0], 0), ([0, -1, 0, 0, 0, 0], 1)]
def tok01110 : List Nat :=
  digs 800 402812642833837617719176411867733277528376449053570540556584199610769704973169623846532762077482096831984828002209305783036209093675398151911466025213348914656965599608800027938912245508125224857621605152742195323429789431423270909377279704658970743636921399892817768488833997142805673769953186057507785600473218983784833237205468282886467386577093063547507883252445242368639986336703433294092713080513048377308700574925030318891720117010383633196873116604307721355179431307578796022366684241586833975750383712419498554845601033415314208728761838447111717459376622985223789227640556447451300163237456081673955235625789370522002807749310646049062254588486855543820589793724591248613263242751307682812291226151264510191433160318146663427263518357561214365142886667990395993326119610763123922386929321737858146067507457383902149794374903187846951755264048635504726736325082551783683375014669426623874887344706894976607663251637174889484144738737073291072012830609395235341376237533981894525691027426488197578743808592821561860297945035194004701430623953160836815793682229708771441260192580899871352928987660945247953568454927679538667603277538703107861628902525865522187249893375281984881475659273109504 ++ (
  digs 800 424832319478749879407560206461508902931450446553909284727605948825765880198283023792963044887140555636371379414168320855651729556491167908373314605439654337861244906273995307971786373787346599633381294890465232234503900294376000923173265567838906199636113972530472786708368742648157045738039987918998330518072888248880366981478252925561239048438468881926602789257355814954266507729664125786788372841184446020147892180497532597974893562658899210004444449471563104789175492494500004415826935506785982302710900724553965974138846762768781997315131230174671036113463121011336728598805283798475114004173559072178181935800326890381056305758231115593664690630248399731445305068601813693635923187422989132343757364190908990585034097629073972775241135521037943615862855673921200568419383424773048592991196549616949584271953059509800992837920566370226153492008977332987847751489236580200920237412856274142233959994189383529352379458189656474617602838407696931078014417592622257799187617980589345683752920579331068795673741123808930914998226270657181448256904143688308858087250551165375773674263206755289537814936285997890920037291482832772033970951777481445132814158387030227293779411863156160452836061728432260096 ++ (
  digs 800 856483823167172727934706058061904436278302553827046009464568322991675827138878123247688506242613198885674399771909189385879183270843758199605969571839941450071656934736084253859021630564658147000054986839456414412571905447024053848578352153051752962448654487540000857018998516030599623492522546675745211278407021535228759336660899944930045498856898455973926394543631287758466288271422057829635596663035333437961216777145428840561542890614637081439187205358129173022704024333436361823913782869867249642124683893211583793825467971028695155847366209819530247594169125490899467358972627575650736325664661641261002180302702335329480846802309487448196231579781497593877962131331729136572417472291639134026496467566575181633022596267539199076308902556015672840674759448965285804999880194931822772560996043858840747964198984800082525881181786651822613116454553365183988901249781575554336640487172996742178048161731914946311048876853218172237810891109901025453316105522369839557925058782021611392849442971121442291333029784549932009899950848653801237012588486740530637345431234680846687780576807045467226521306383663885726739234415562785892324822575060061993133456594506148893827387759496016474046465456431170946 ++ (
  digs 800 489781917097769214279629003566100548134423037718005340100158557304919234503135235150410685988219609002960872656126226198017805511120363684627611727544087255830983695901117890129496878827654487895467921899134545255161420463110186393667486700876318456972341291921011425734976977681136701640627205878955938191329952415286599339259533132479868601778869181295951750152166579107836974941452324354565818318882448072083617765142848150974789734739220391841956167862318976157048539371012742260678277013542868081363023345852285346089951297662762840885108584685526463127521130144412405423356536584909219086559942891729029394981772798824111090866633564320049122753628584378671487997255629688930173690180349081858242824074937002611497302753138122352289847721984391448793407027553769169030969081813767703271486693337704657042152317332877202898965244274021555805581128237247157378248391757672151520145036809404897984753525215745034172503419033162145772281367203273476490019245455509288595435632256071778844017765478716168512431906011049514656122028367527795688181782705779221526192321493588403740872764773349380639277907177031936190389633720798772466103980222920649842608129276118271790571692570879446660325602891925505 ++ (
  digs 166 223967196036446176445772994307910306164696416098762063836171489803406804803313393917543992224682973871566226885715840792321341940074906850347387584325897909688071383646948487937854602800349677855795460794940743321003211726424164831431902478557282368))))
theorem table01110 : chk GG FF fs01110 cs01110 tok01110 = some [] := by decide +kernel
def fs01111 : List (List Int) := [[1, 0, 0, 0, 0, 0], [0, 1, 0, 0, 0, 0], [0, 0, 1, 0, 0, 0], [0, 0, 0, 1, 0, 0], [0, 0, 0, 0, 1, 0], [0, 0, 0, 0, 0, 1], [0, 0, 0, 0, 0, 0], [0, 0, 0, 1, 0, 0], [1, -1, -1, 1, 0, 0], [-1, 1, 1, 0, 0, 0], [1, 0, -1, 1, 0, 0]]
def cs01111 : Cs := [([1, 0, -1, 1, 0, 0], 0), ([-1, 1, 1, 0, 0, 0], 0), ([1, -1, -1, 1, 0, 0], 0), ([0, 0, 0, 1, 0, 0], 0), ([0, -1, 0, 0, 0, 0], 1)]
def tok01111 : List Nat :=
  digs 800 7448753128255265786594235089921714204817689593514787780766165446950737235939486047493911475159583033373749859279412298840435186711723717816626536281455461413700865067549319896541244029985527698691296368951168243618315527593645711379928338895252119906177668733327845238313663659755219415111586457186600382814006310335734019319385114511261523689735161851074255163665101602373741642014941969844550888101940417136709458003790375972646571138402858622688624121649238459574862732941863898144982695521353753585421146843550897799356432781469009955003061430691011009846164523355489458267443962041288654461445355960265811716514149953425317965052308540082160388414315207286768069390509528895234824110093923614048580698713829120519785006655512858255020509859298077299068934721493570602291549372585860669105380104944289430849173521730372819172150349690813829970718675416613199875691681401707167386411083148508340649917987053900726232016661824379158389694797097485569722762681041994435304820179738583118477720103271923155350991268191547097220334791118433470883455340216017185824524977627589419389072453734478362772127894193074972887473190861267875996732772181535219227449172818346954180817082476260534273713192627635265 ++ (
  digs 277 26419488653543419043941194288901446009681974053358624087365503679023308406802484575275077180956718001303097303590832704238233534613779396459923239160039711514059316081293604919424858843866608540289382045474371073795039416673649440078296276369596292838622690447842864838098473066124855324104774677963567967397614555952648138460328721893349195616818682347742463995679097475274078267860000181723406887896062680770938306)
theorem table01111 : chk GG FF fs01111 cs01111 tok01111 = some [] := by decide +kernel
def fs10010 : List (List Int) := [[1, 0, 0, 0, 0, 0], [0, 1, 0, 0, 0, 0], [0, 0, 1, 0, 0, 0], [0, 0, 0, 1, 0, 0], [0, 0, 0, 0, 1, 0], [0, 0, 0, 0, 0, 1], [0, 1, 0, 0, 0, 0], [0, 0, 0, 0, 0, 0], [0, 0, 0, 0, 0, 0], [-1, 0, 1, 0, 0, 0], [0, 0, 0, 0, 0, 0]]
def cs10010 : Cs := [([-1, 0, 1, 0, 0, 0], 1), ([-1, 0, 1, 0, 0, 0], 0), ([-1, 0, 1, 0, 0, 0], 1), ([0, 0, 0, -1, 0, 0], 1), ([0, 1, 0, 0, 0, 0], 0)]
def tok10010 : List Nat :=
  digs 800 412656145496125992271017129810755336838004171165557975035423857739165823506514706690736681988845575466222553004013907740293935403193982749692859777474225056559716872329617871295472062809040497719557976812122391568503258558712314389552823557177853723603695230042528492568204002950667738740333918626553770628021771096815568982835257883610763486827323262643661524203775697558514268051106567903900427666420533002380478554186295544449723302139426205491232653387152548119594734616470828690080990082064586637660307881786800571541225301898240041389079499897075216198118676397547463171776313943824989146361710595431695838729044448870843305410825726576617354142876166362820805547561615701811803599044447329134727157120943810406665378772896274711049012138338070044918088009692426910661147607732903242122149360874922231926944144804730920162781612083302586417615520163026859788318044745788943278259217326235502488728024764953874809284628016941890757881630124385640717657815383271441824259461993614914964996623558325963788511482987487630350071864981328052147030436272726512719376509045971734987237522715761607837310121758019756226026078797830519238647130768406350125224880019699531092590924272018442050888075644539969 ++ (
  digs 800 12889615588057918923132787857390318127341992559452388509349769386825112409814722845617475014021083755641011235487328379083404698433205201848267624436381729263704787632218707013888397241721084371043470758349095571132034382162857664590009488238089254623550245113342875557474004074664725384794756390740655207885380618721660005273824342287911419751807096684356528477961297719622125301937219440582718558792689635315939067752925437604614022662865979701619993638191665638384610548514355820254430346655331227689796653628874730394816189011199500035210971380159055407289893835197733969676912462222332553748842539390810334146005303155578396769021776449902733500506487009924160168999486140275613608704920477153684285222009325863472630372396250982128518473671242966383739760552794124523571520757309147647998707802732625687672473720111302444438182827854550549124944214842202991294446734717091384584708263682565618657474275000217620051109730269827862347350490293317288262782871268832119410594989772643043417497603023674086586434238431514643365187322672365624321742342886889663199088965922821819753400349601391349249793211266374727527048514853321241069427565154388956618298891170034454964853949041599437974579344838688 ++ (
  digs 482 9499122122814364295149788658936043706463684662873779407325125808377725811325283646005230702846584564994095734695671952892521433398053860978424180346807279273382669379240302680081939078265585300886197479839539007438182975571800375006819739421100658791583096919610926092342009371497281413436038322506266263859082843112772763591323715561109705227479084663969973756437841275803178581536869511344800470453469298187239367873283045713147086976791969636394540216796864304583367181092646619309971754032946204286760401134542422918106186931615840926233994597736827983024536369244216345980041707865313062097623563361703906302322570802659458096394278115368927537515282081616776213690891383733249528507902120204485892916621988525382175776))
theorem table10010 : chk GG FF fs10010 cs10010 tok10010 = some [] := by decide +kernel
def fs10101 : List (List Int) := [[1, 0, 0, 0, 0, 0], [0, 1, 0, 0, 0, 0], [0, 0, 1, 0, 0, 0], [0, 0, 0, 1, 0, 0], [0, 0, 0, 0, 1, 0], [0, 0, 0, 0, 0, 1], [0, 1, 0, 0, 0, 0], [0, 0, 0, 0, 0, 0], [1, 0, -1, 0, 0, 0], [0, 0, 0, 0, 0, 0], [1, 0, -1, 0, 0, 0]]
def cs10101 : Cs := [([1, 0, -1, 0, 0, 0], 0), ([1, 0, -1, 0, 0, 0], 1), ([1, 0, -1, 0, 0, 0], 0), ([0, 0, 0, -1, 0, 0], 1), ([0, 1, 0, 0, 0, 0], 0)]
def tok10101 : List Nat :=
  digs 800 4570348127974783811715490714400618788381742848143469766123887700330830153323589105039782055300521879358727662429181317181085381027675048035907521046221207124863017457072673882005445459417869523517918071947286567582574341854860655396233687480176513581895467654668320267930211167028253759787974892365826007630697220099917404729264353810543636264333198778948668319695919621123948233614159106563950301806640311230520054513191246153184052512285375297484516920329611346493503550444736316330213602038872697393323141495142872157595854788878115467443572873115159200659674387584667748469280356613149860685572143832401016047110209657371197195209244286214138728701002656923262416115984440953017806269646563482725587462949117779134505791570526789195160084959144971486390457489756290747250825013369494915753383361307013906204513310372662632052170026933592951752887488712093368629134610160088882231011064670847108039562517176592169907215952441169661205796273822258951252093672123244604655846829996323723270551485153910407378192011973673847887140653785965252391905253577546532516427715585219343860756959583455907933042474455167459915952167142162813122898754590264912803771093848033339590599642000576036215908873554400353 ++ (
  digs 800 425629411009146159404892414413818323622289036750296255392925428095691288988563009774103591280526207470472996150848864600782858819620414883627279837171368902359693467996154533314566951458838210585259648818637026134856980901911088544297473958952299674944498975630829652849351365633393691050220476449301431800941572851887407682202662135716082142773366898975089362727743344008658936989485093846391349939809462707652282498188626983321742102650693480506727888063077657391889277708990726644543689071215590891185492469236285068990454818418834281457808846150781944903655642401629334673594521545818610499336367116797082181996632759148713992989086279949875475389989521097968611212967209440011790338248546734625833390645274567175502337218976338641112087578852299175629883189358423434847812015664556911110010537308885520667631555440652537056460769218593468939527465165050283321359261674025224154856380701841865588878458855450867788023705190815873848967630841555934664351030422413810141925594648954084957119778296647632900357114369689781803671795231680622762094344760128021886876339693998015692924212341927852903215672001336517238632688770414698961252250848103531704390067501293779322161866022555075594274943780520993 ++ (
  digs 800 1249092138870770905519830526331451504111023050900600219137289014317736422286827710510542396918622180289665431071444321222648889816834149205241339263779208924044028470735829494942617643792872159739838428365850670324263822735815139690520002210271977285414448785328797481166810977131560039011599022836962934055671706435160342091591365789661731719384859710922723644474459039260482308428667842168720446310145972926449795827556381362560647318204144602320639874026124680878460399983566470150842791004751824498851701702001142419514028543379690559519476351218536543021256065521591259251976420576266237012810925816755531989638517040594403084578023606734514761767611026255784603939662959155134175052072994178081814390495514304146935398197414301902811302312436827483771983282034680273976778663017924159869171421136926490692777607873159593808155592829075620538153215184586743847412462697871844238316222558281996201843635588504989967065051240044319274971684161873272139067124951283940602472919361968176354385370737423716685647248827705613126908133249552227371159764888874793485347631316143197883405200161999606236064258996421543562717802090731749719267693717728719041848637839208429496036377485239105621729414835373441 ++ (
  digs 387 97366317852813776928691762730648905558861429644848419744351121877953456165319119388999425379082824275711047840531211953915557919927495298961178321752253454090402881882105305411345799532272127599818745584466038091994877441795249841113075689872153483590115141562933044107614179722222750722806614869997697851540998478197483934629905884137870978633533815886145958508376662003908256776512470157272563258817324240763053303672846672244315234636368072103633646129947988499880791911515361805481782386358528716388919550166784858211176593096031207437582930202340397035238455106454383939853353)))
theorem table10101 : chk GG FF fs10101 cs10101 tok10101 = some [] := by decide +kernel
def fs10111 : List (List Int) := [[1, 0, 0, 0, 0, 0], [0, 1, 0, 0, 0, 0], [0, 0, 1, 0, 0, 0], [0, 0, 0, 1, 0, 0], [0, 0, 0, 0, 1, 0], [0, 0, 0, 0, 0, 1], [0, 1, 0, 0, 0, 0], [0, 0, 0, 0, 0, 0], [1, 0, -1, 0, 0, 0], [-1, 0, 1, 0, 0, 0], [1, 0, -1, 0, 0, 0]]
def cs10111 : Cs := [([1, 0, -1, 0, 0, 0], 0), ([-1, 0, 1, 0, 0, 0], 0), ([1, 0, -1, 0, 0, 0], 0), ([0, 0, 0, -1, 0, 0], 1), ([0, 1, 0, 0, 0, 0], 0)]
def tok10111 : List Nat :=
  digs 800 2098728041055123447595636119907329341570128503448640932925996684106382572747689527859429277396349547309746467487965603217351344782074423646532705927803018498384840371866593499352840631552967860535542682692638444889177687820730210909433216347807000279657088266289687537274032501058033516926583782820266448012677536340247208630869327144790145881423395532665109013995969934902798841819015524201323880173483658972663699600204624967220519624156575642297501126061725345274849975148817794234427280230581426884268236006488988681288179630701435198074704705789771235721926521516644200470464033046977483627957894670992711898886983761468378337312951104594435792869318113374596189533988224943635675484276349626313056202126016968359461620505541488059390145702145264384249128296955308325718055761432132786636954073226459880851060840004698445801203904191066531135897707173789707585618267431447086520237195013300886096775016932533983077777729321069828367348374321236385482787232562049756957725080758750672397482414882215599208076551152145423480585943996299865476255079910314675753764134055050371898357943934006627766664125917970522722372228117066197179215662558246275249338057401104553118988475118206697435346021672588385 ++ (
  digs 800 759927691929224535736768900573789451548603907340093326722823662666825299718311488551285134408657592826150931686314172630314588251964711928303552295969981059818852634264281905133999625383868265622622729604918326492383781494316508857967997066828306636132603744398972874349864061596689200732371116047458184137191268652661983489332961514700717076311894821779613732487925760771575295815575728235104017831332805701801378926865281338121121053379912679687636768489173938349645197069786050803293816441018159674311191141616900309473854210198401677224361304554498078883749718153592430364280688782794790914029986470773557693609968769505916668200510205552593918392403418943268071099663087219838551823898410753518562013930893103346380609728095643980867508399171415119937629658210127848494184337321508317156470809802282407324059330822174080966301652144268346489358254538567479565715809061193157776674853190067332544961357899386805678199574859956602140986401756243795421240306230074370688677547353638910443310601081362824256409905644536668923444590371086493812869238543951356478246013350755961026914111218113229693121692373745101952233009227970802433775060534501007411641011817407864408417623828246297247882594602714209 ++ (
  digs 719 4991312786012446632042909266586948786455502119726873948773924823388016225193843874344687119858011192972221866544433556043111389092461747290977854237692636049993020518009578219782057708525396511142131087520927576270389592595634391117955517050478754173567648862965301114886719161377244650962895517022616525750430623122055785347341745112680705337325487610539750455297134185262363667384066137098037987968089041997712208869941742967560731757769870727531224711776501161647235113167302001187962044350226737414595238369044049311036058123278164928323926215467115227380733998194109730050347354897009553369377143405961324342845250395292330817496205549609203567242560511137297244319589309707699705365833944151695600489103697441648328337810595102655275788238187216101271036808404903982224518977510000835425468347290515408942402118809692738450457850427612245145019639476482571784761263875667746120557650410044806222689636460620254069686680941839127232739894558582196622635980809081795620874924699847285605141025571754023584412458408478050085862079654190517821722384567798804076246896700439726113))
theorem table10111 : chk GG FF fs10111 cs10111 tok10111 = some [] := by decide +kernel
def fs11010 : List (List Int) := [[1, 0, 0, 0, 0, 0], [0, 1, 0, 0, 0, 0], [0, 0, 1, 0, 0, 0], [0, 0, 0, 1, 0, 0], [0, 0, 0, 0, 1, 0], [0, 0, 0, 0, 0, 1], [0, 1, 0, 0, 0, 0], [0, 0, 0, 1, 0, 0], [0, 0, 0, 0, 0, 0], [-1, 0, 1, 0, 0, 0], [0, 0, 0, 0, 0, 0]]
def cs11010 : Cs := [([-1, 0, 1, -1, 0, 0], 1), ([-1, 0, 1, 0, 0, 0], 0), ([-1, 0, 1, -1, 0, 0], 1), ([0, 0, 0, 1, 0, 0], 0), ([0, 1, 0, 0, 0, 0], 0)]
def tok11010 : List Nat :=
  digs 800 862899115198367329368047159328008760922950426579564155626164547546163693618005906144229994683257323308784125221133863710706863017520139199228936031694669386224539816640890432019618474383819590967577370036907591598929106610555538061744980288067398582013950483696894663531715362658221967583865036559423394943714047642377537557154509683561760014740883671508477997939927383890133439614338937240702450630420770803070887177824832775777629313997381358201078307608881626857340159567205465414561938281558488493993358328574242131843759429175536369485200071511647115906013358048069436399059552685891848379046151970186411114177552131865469813389261679337558854304146055516648964240053098680427964069032571898696018523993860223342600364476346483234134354711351561497627014425958268887457309043535627258388366189989049299824715192966490954545561350338625423907911793502101729485262421022130985514800772649738987731306252978364043267260044271019984087002317814107936783943645095657992443720153915384937282285684403355491258502046051542440610900706818545227612438532065595384795546850429245347553167186146663129399942710968185217533443726894159076395800291128749288959852827573621513119876013252159039759675608822486081 ++ (
  digs 800 412341493338948906868101136702260453574181077438720534701271006729754466094474580170103731339244952899695825728845071177329555548908867594938363812511708707374318272024102387768041731299261335880221843033929561688401356378862082345272954025436577118375286384417849328091746103049216669888715198957735169117250769094680591304281571324551061480975654805589984191225472152699572072511098478474446267683297942187374554038507821999682159469146318587596620038429326642160666702428208303784011453037781371742375576801127715815174004635413446773584464350479166019220923522339397858319067344352574771867228799873994100941229807982995341989953318091082653469211923154436414312848000358180426248786258995225828624506197473144705605977159187557971430572775217004580234623490400230975551164225723018988748644010910780066452731005425581474008220221098326976167465647747325464000940454703283310176459995473235510422053461050681059728518727073846640891044820464166927424471021747872901682144312156380093361933619587188880362489124209970274384705089802609492681448920235523334073816971667726630595685042504308392337658444714700914861391265565731700034210050811712204084146514477202095521349614292734977472970657151058977 ++ (
  digs 110 115355253592353899994186190431058234555722825368226896133381102757798788435241424402426931204123824820560862206549861713795355715565193834002765558926950956359026147))
theorem table11010 : chk GG FF fs11010 cs11010 tok11010 = some [] := by decide +kernel
def fs11101 : List (List Int) := [[1, 0, 0, 0, 0, 0], [0, 1, 0, 0, 0, 0], [0, 0, 1, 0, 0, 0], [0, 0, 0, 1, 0, 0], [0, 0, 0, 0, 1, 0], [0, 0, 0, 0, 0, 1], [0, 1, 0, 0, 0, 0], [0, 0, 0, 1, 0, 0], [1, 0, -1, 1, 0, 0], [0, 0, 0, 0, 0, 0], [1, 0, -1, 1, 0, 0]]
def cs11101 : Cs := [([1, 0, -1, 1, 0, 0], 0), ([1, 0, -1, 0, 0, 0], 1), ([1, 0, -1, 1, 0, 0], 0), ([0, 0, 0, 1, 0, 0], 0), ([0, 1, 0, 0, 0, 0], 0)]
def tok11101 : List Nat :=
  digs 800 425968837959567218043241817868333545449528507397066595106573967331031988156069604273115440369578885657301246369655195448013065030832802026291800663772668799883545677102452219760597325220931350104880545288028065805080948786808443441517942227093979491381040157408825014159559599735076766330634446639317357173052908565917964040241565851109576900293407878984584730862628871113536927315652890368901302353530978469836664776031902995445434344072854249319502952454092742589101188388203086534704205486035709087747269324678934251803526919221096857784235200964436447108286827296487527656509979245599203669725551488978368681250538568360711319284752179324450698935380181986431550605907865255291058551740286094401337297775768933221287502762226657511209158899262210838840315685304208097655303907091357786669190698195909455083810193888555922323430828329177805476661360610469678349218194862783172261269784554057194350663769190184982330522448231768557205302440855196902492734997532771020934091760396377548001013706684930814051544724317192891977393963193601914564397605955925128909418327063931839038867380845877167359075816477006864469405843792705634291538118061125285653288228220896798949126309239548915244438742806598785 ++ (
  digs 800 632000679295921110620148580220719880964736038938381997064854130675264120353522174449631572751101239136007917282252246676120100897786962929142474879182754197229343870959265790627792785085905103061071892418069238614458994911990890313514190870209343918834434195774847787323798380051486542515111983823734262268572668154437598792158669969201967634976108188345047296195929718163245145160222420874031859421748584977478035202306494665009226999330687747329533748463533509329357835001692834129422915443251678044641512548643119965693557287469148842237711660929174610296870927954735188799043089498685444861988775391521868212630018916750894170161342340874604364117484992776576183921406109133370142303646857921071274601302794689138847764208084401682185476036210964525731279212392724343705218023798766811018195181056498896364313813171042184442488364487134746227284205743048902631488382346455864439938117316203980612594411920820546481527849616096742689295503401952305805915085719250654807108277810354971613919104239127599327352693467574695714956840721528906309262049321620959359782241862627521037187533536547516216535325196541392474834597043179210014950554077609419309592955463978315054010497392397873080448796195815503 ++ (
  digs 800 836763229302860704444133587203506097075713011149898569551684352690111535147916727018003334672043689081843241691524933754509792888299988991986115624978321950659575303661920710939966879493004876659523797071346940265891278585385671119657569104737683911991244406655346732934463820535555404897676578324974776179278065058939996448471495616355535213183922868150483578918882751140128454022419416341745818432232438234637484059988677371214184549614010755740412195658183595096789327421010791212406713571086577724142477118140723014134848567784921741897998632187142598858387355192439461907395495337100388770269907473216829490358220092041907304785036701960442589592368845920618141176634198040209648828100741651083913739881456620984072775059849245434913363493125702952974400669602874169022721661383594709503567848774327052085779844984072972379073113265607485181765731825935272295541121602382217306750549271710702769466959650921122591041833395641367285300427517389249916284355202359766784730459876878474868480313350140628204937546307604589459756389180215804620997763492019817295370238689077861296193886314660822297940519089382894190791122287779459253989571080123095478947513050140854755601715825220819772278887023673387 ++ (
  digs 800 12891183137347071443250199521896423790506986804938840345922357210084994952427008038767991837537769863798160618702300741139856230365720154199257422133939490364422541491403594557543534754819216558670454454170611364908078584359474378996590408890507307779857284681631298548865251648932010819898446448103861918077518475419117973433283334624031806685828538904494999646849886392455855406585547121961581993625312151163672161408386907761212032860543822111720020389738223051788063576187251573087875784935763748636595332782012331374678586706310845348632560971166582983002902820758365562479572582960339389046932731629616351806059468650321745393268401411080570047139920371346891327345686453205865739200569583579859189654402421129344062151935175457539374229143941408349949992547780151211052164310543916542071503652255199725667320586586556358035230017071311751941076147642427377474779643321788871302626921163110304183490668660330954257201744898876002380243298434808932603438997069478296148374278515215373810493856173274267339634995881944150482986127529307930022585562698573426100260145089691588950210254112513439257663856480395916508997299911718231382057365805930671893817814011416593675472389254533669771116755845162 ++ (
  digs 27 1362752101016960738996134065408992905281))))
theorem table11101 : chk GG FF fs11101 cs11101 tok11101 = some [] := by decide +kernel
def fs11111 : List (List Int) := [[1, 0, 0, 0, 0, 0], [0, 1, 0, 0, 0, 0], [0, 0, 1, 0, 0, 0], [0, 0, 0, 1, 0, 0], [0, 0, 0, 0, 1, 0], [0, 0, 0, 0, 0, 1], [0, 1, 0, 0, 0, 0], [0, 0, 0, 1, 0, 0], [1, 0, -1, 1, 0, 0], [-1, 0, 1, 0, 0, 0], [1, 0, -1, 1, 0, 0]]
def cs11111 : Cs := [([1, 0, -1, 1, 0, 0], 0), ([-1, 0, 1, 0, 0, 0], 0), ([1, 0, -1, 1, 0, 0], 0), ([0, 0, 0, 1, 0, 0], 0), ([0, 1, 0, 0, 0, 0], 0)]
def tok11111 : List Nat :=
  digs 800 12890397426479870250764712474625822709094786869012946334696324148977930764290367486676516199225511269956971889656966393001331557245514252768538773136112418223817426718935869771755778444016453770481854106148639446391030855579046893690566791849587444825839581394653897646246267386393547422484581436461158628275114734301973588831989828901688214879932275464997508818967596098316025194453898162085010078969007640494589977994749566353342115156562324354892855469532894583067448626812699364095349206571305007507033443672141752213049910402170003010991701687057427220769722560913895191703793362714109852489722891454712261620315838913767057252993633150586979552387202110464397449392412267019469214091782006965740258833634483690039158520962108969891894580103916224458158228773633094180546198550972114556750550243310949163541119197224455271735089589084583146155976613850527614633734391332528579802258246424581778389547454637648371008160781306156180553525999570867468068386443773466576174477969834652822821568085286426524459738309511516018942645913606377085055063896989249457691311520925393831319170904789399929095168885371226306685780721492854609972386478897223000416964547726099801126033985524736328360983744517217 ++ (
  digs 800 631598862171602119254826765701530089650468429318869765102545597005263360153211553848942010909062719280423209691999351249466669188073338980782944733969159339974121067951462732092980229322550207696590987017890471909072325188418339795060308204432355642301754277467077332776706013868552950552502390908376165500625471075968294298437188475964434433952398133880658553946566289724405170943679925017910009893596238098354978502364604132980920691112439217426310811658579391265516147032304055849317088774377909379364021662626848278354787997684053601066757242954242601828518150512599057326902961820357859652687369218021701813482074589824419581683866084702964246196669694103354562134067803079987386908258842774721871034899834559739357439004986855293009891451859560574478926350039825970664187888725070447515735158870722628476267936192575212776901391655559868925636760207987378920117228369969846056432168055504121796190853661802209422887352297012187832977398471498326090453397863231374159664894023331074622921743510322616930129912279670404762628637702377862960654805511369382649307237707697358107839691746220252096692440534295919706803042757056149912809058954554835498822302876399444491486294528998597658305609401946177 ++ (
  digs 453 253540125128933595509395331710100991520751812136246289929335263793838666317198309733003203360672768396933090430544408343445726306010618815860267513485675417773917979273536166002912775823082679553916670815347658189594054811223189022254042717767646932958897076464106669056486502454179759840733531692623349864889390586552433890305817158995047949847014348457557378442390658717777068301571665653389879397413536110202955530074670652601246009542318249246961300752066324615531620168076589541680187071057044032523099228600885538110059408855629900047637237307817011637528593589417174266195610584352642009994175077081260379312831549097941227872706611697970416167499116787526006035206669351))
theorem table11111 : chk GG FF fs11111 cs11111 tok11111 = some [] := by decide +kernel
theorem mk_hold {v : List Int} {cs : Cs} (h : ∀ p ∈ cs, p.2 ≤ dot p.1 v) : Hold v cs := h
theorem pp_or (x : Int) : (x < 0 ∧ pp x = 0) ∨ (0 ≤ x ∧ pp x = x) := by unfold pp; split <;> omega
theorem five {a b c d e f r0 r1 r2 r3 r4 : Int} {rs : List Int} (h0 : r0 = pp b) (h1 : r1 = pp d) (h2 : r2 = pp (a - (b - r0) - c + r1)) (h3 : r3 = pp (r1 - (a - (b - r0) - c + r1))) (h4 : r4 = pp ((b - r0) + (a - (b - r0) - c + r1)))
    (h : Ok FF rs [a, b, c, d, e, f, r0, r1, r2, r3, r4]) : ∀ g ∈ GG, dot g ([a, b, c, d, e, f, r0, r1, r2, r3, r4] ++ rs) = 0 := by
  rcases pp_or b with ⟨g0, k0⟩ | ⟨g0, k0⟩ <;> rw [k0] at h0 <;> rcases pp_or d with ⟨g1, k1⟩ | ⟨g1, k1⟩ <;> rw [k1] at h1 <;>
  rcases pp_or (a - (b - r0) - c + r1) with ⟨g2, k2⟩ | ⟨g2, k2⟩ <;> rw [k2] at h2 <;> rcases pp_or (r1 - (a - (b - r0) - c + r1)) with ⟨g3, k3⟩ | ⟨g3, k3⟩ <;> rw [k3] at h3 <;> (first | (exfalso; omega) | skip) <;>
  rcases pp_or ((b - r0) + (a - (b - r0) - c + r1)) with ⟨g4, k4⟩ | ⟨g4, k4⟩ <;> rw [k4] at h4 <;> (first | (exfalso; omega) | skip) <;> clear k0 k1 k2 k3 k4
  · exact chk_ok (v := [a, b, c, d, e, f]) table00010 (by intro p hp; simp only [cs00010, List.mem_cons, List.not_mem_nil, or_false] at hp; rcases hp with rfl | rfl | rfl | rfl | rfl <;> simp only [dot] <;> omega) (by simp only [fs00010, List.map_cons, List.map_nil, dot]; simp only [List.cons.injEq, and_true]; omega) h
  · exact chk_ok (v := [a, b, c, d, e, f]) table00100 (by intro p hp; simp only [cs00100, List.mem_cons, List.not_mem_nil, or_false] at hp; rcases hp with rfl | rfl | rfl | rfl | rfl <;> simp only [dot] <;> omega) (by simp only [fs00100, List.map_cons, List.map_nil, dot]; simp only [List.cons.injEq, and_true]; omega) h
  · exact chk_ok (v := [a, b, c, d, e, f]) table00101 (by intro p hp; simp only [cs00101, List.mem_cons, List.not_mem_nil, or_false] at hp; rcases hp with rfl | rfl | rfl | rfl | rfl <;> simp only [dot] <;> omega) (by simp only [fs00101, List.map_cons, List.map_nil, dot]; simp only [List.cons.injEq, and_true]; omega) h
  · exact chk_ok (v := [a, b, c, d, e, f]) table00110 (by intro p hp; simp only [cs00110, List.mem_cons, List.not_mem_nil, or_false] at hp; rcases hp with rfl | rfl | rfl | rfl | rfl <;> simp only [dot] <;> omega) (by simp only [fs00110, List.map_cons, List.map_nil, dot]; simp only [List.cons.injEq, and_true]; omega) h
  · exact chk_ok (v := [a, b, c, d, e, f]) table01010 (by intro p hp; simp only [cs01010, List.mem_cons, List.not_mem_nil, or_false] at hp; rcases hp with rfl | rfl | rfl | rfl | rfl <;> simp only [dot] <;> omega) (by simp only [fs01010, List.map_cons, List.map_nil, dot]; simp only [List.cons.injEq, and_true]; omega) h
  · exact chk_ok (v := [a, b, c, d, e, f]) table01100 (by intro p hp; simp only [cs01100, List.mem_cons, List.not_mem_nil, or_false] at hp; rcases hp with rfl | rfl | rfl | rfl | rfl <;> simp only [dot] <;> omega) (by simp only [fs01100, List.map_cons, List.map_nil, dot]; simp only [List.cons.injEq, and_true]; omega) h
  · exact chk_ok (v := [a, b, c, d, e, f]) table01101 (by intro p hp; simp only [cs01101, List.mem_cons, List.not_mem_nil, or_false] at hp; rcases hp with rfl | rfl | rfl | rfl | rfl <;> simp only [dot] <;> omega) (by simp only [fs01101, List.map_cons, List.map_nil, dot]; simp only [List.cons.injEq, and_true]; omega) h
  · exact chk_ok (v := [a, b, c, d, e, f]) table01110 (by intro p hp; simp only [cs01110, List.mem_cons, List.not_mem_nil, or_false] at hp; rcases hp with rfl | rfl | rfl | rfl | rfl <;> simp only [dot] <;> omega) (by simp only [fs01110, List.map_cons, List.map_nil, dot]; simp only [List.cons.injEq, and_true]; omega) h
  · exact chk_ok (v := [a, b, c, d, e, f]) table01111 (by intro p hp; simp only [cs01111, List.mem_cons, List.not_mem_nil, or_false] at hp; rcases hp with rfl | rfl | rfl | rfl | rfl <;> simp only [dot] <;> omega) (by simp only [fs01111, List.map_cons, List.map_nil, dot]; simp only [List.cons.injEq, and_true]; omega) h
  · exact chk_ok (v := [a, b, c, d, e, f]) table10010 (by intro p hp; simp only [cs10010, List.mem_cons, List.not_mem_nil, or_false] at hp; rcases hp with rfl | rfl | rfl | rfl | rfl <;> simp only [dot] <;> omega) (by simp only [fs10010, List.map_cons, List.map_nil, dot]; simp only [List.cons.injEq, and_true]; omega) h
  · exact chk_ok (v := [a, b, c, d, e, f]) table10101 (by intro p hp; simp only [cs10101, List.mem_cons, List.not_mem_nil, or_false] at hp; rcases hp with rfl | rfl | rfl | rfl | rfl <;> simp only [dot] <;> omega) (by simp only [fs10101, List.map_cons, List.map_nil, dot]; simp only [List.cons.injEq, and_true]; omega) h
  · exact chk_ok (v := [a, b, c, d, e, f]) table10111 (by intro p hp; simp only [cs10111, List.mem_cons, List.not_mem_nil, or_false] at hp; rcases hp with rfl | rfl | rfl | rfl | rfl <;> simp only [dot] <;> omega) (by simp only [fs10111, List.map_cons, List.map_nil, dot]; simp only [List.cons.injEq, and_true]; omega) h
  · exact chk_ok (v := [a, b, c, d, e, f]) table11010 (by intro p hp; simp only [cs11010, List.mem_cons, List.not_mem_nil, or_false] at hp; rcases hp with rfl | rfl | rfl | rfl | rfl <;> simp only [dot] <;> omega) (by simp only [fs11010, List.map_cons, List.map_nil, dot]; simp only [List.cons.injEq, and_true]; omega) h
  · exact chk_ok (v := [a, b, c, d, e, f]) table11101 (by intro p hp; simp only [cs11101, List.mem_cons, List.not_mem_nil, or_false] at hp; rcases hp with rfl | rfl | rfl | rfl | rfl <;> simp only [dot] <;> omega) (by simp only [fs11101, List.map_cons, List.map_nil, dot]; simp only [List.cons.injEq, and_true]; omega) h
  · exact chk_ok (v := [a, b, c, d, e, f]) table11111 (by intro p hp; simp only [cs11111, List.mem_cons, List.not_mem_nil, or_false] at hp; rcases hp with rfl | rfl | rfl | rfl | rfl <;> simp only [dot] <;> omega) (by simp only [fs11111, List.map_cons, List.map_nil, dot]; simp only [List.cons.injEq, and_true]; omega) h
end BZ
namespace CU
def pp (x : Int) : Int := if x < 0 then 0 else x
theorem pp_bz (x : Int) : BZ.pp x = pp x := rfl
/-- a positive letter on two strands, by point 17: the four new numbers -/
def q1 (a b c d : Int) : Int := a + pp b + pp (pp d - (a - (b - pp b) - c + pp d))
def q2 (a b c d : Int) : Int := d - pp (a - (b - pp b) - c + pp d)
def q3 (a b c d : Int) : Int := c + (d - pp d) + ((b - pp b) + (a - (b - pp b) - c + pp d) - pp ((b - pp b) + (a - (b - pp b) - c + pp d)))
def q4 (a b c d : Int) : Int := b + pp (a - (b - pp b) - c + pp d)
theorem step (a b c d : Int) : ∃ pb pd pe x y : Int, pb = pp b ∧ pd = pp d ∧ pe = pp (a - (b - pb) - c + pd) ∧ x = pp (pd - (a - (b - pb) - c + pd)) ∧ y = pp ((b - pb) + (a - (b - pb) - c + pd)) ∧
    q1 a b c d = a + pb + x ∧ q2 a b c d = d - pe ∧ q3 a b c d = c + (d - pd) + ((b - pb) + (a - (b - pb) - c + pd) - y) ∧ q4 a b c d = b + pe :=
  ⟨_, _, _, _, _, rfl, rfl, rfl, rfl, rfl, rfl, rfl, rfl, rfl⟩
theorem braid6 (a b c d e f : Int) :
    (q1 (q1 a b c d) (q2 a b c d) (q1 (q3 a b c d) (q4 a b c d) e f) (q2 (q3 a b c d) (q4 a b c d) e f) = q1 a b (q1 c d e f) (q2 c d e f)) ∧
    (q2 (q1 a b c d) (q2 a b c d) (q1 (q3 a b c d) (q4 a b c d) e f) (q2 (q3 a b c d) (q4 a b c d) e f) = q2 a b (q1 c d e f) (q2 c d e f)) ∧
    (q3 (q1 a b c d) (q2 a b c d) (q1 (q3 a b c d) (q4 a b c d) e f) (q2 (q3 a b c d) (q4 a b c d) e f) = q1 (q3 a b (q1 c d e f) (q2 c d e f)) (q4 a b (q1 c d e f) (q2 c d e f)) (q3 c d e f) (q4 c d e f)) ∧
    (q4 (q1 a b c d) (q2 a b c d) (q1 (q3 a b c d) (q4 a b c d) e f) (q2 (q3 a b c d) (q4 a b c d) e f) = q2 (q3 a b (q1 c d e f) (q2 c d e f)) (q4 a b (q1 c d e f) (q2 c d e f)) (q3 c d e f) (q4 c d e f)) ∧
    (q3 (q3 a b c d) (q4 a b c d) e f = q3 (q3 a b (q1 c d e f) (q2 c d e f)) (q4 a b (q1 c d e f) (q2 c d e f)) (q3 c d e f) (q4 c d e f)) ∧
    (q4 (q3 a b c d) (q4 a b c d) e f = q4 (q3 a b (q1 c d e f) (q2 c d e f)) (q4 a b (q1 c d e f) (q2 c d e f)) (q3 c d e f) (q4 c d e f)) := by
  obtain ⟨b1, d1, e1, x1, y1, hb1, hd1, he1, hx1, hy1, r1, r2, r3, r4⟩ := step a b c d
  rw [r1, r2, r3, r4]
  clear r1 r2 r3 r4
  generalize hA : a + b1 + x1 = A
  generalize hB : d - e1 = B
  generalize hC : c + (d - d1) + ((b - b1) + (a - (b - b1) - c + d1) - y1) = C
  generalize hD : b + e1 = D
  obtain ⟨b2, d2, e2, x2, y2, hb2, hd2, he2, hx2, hy2, r1, r2, r3, r4⟩ := step C D e f
  rw [r1, r2, r3, r4]
  clear r1 r2 r3 r4
  generalize hC2 : C + b2 + x2 = C2
  generalize hD2 : f - e2 = D2
  generalize hE2 : e + (f - d2) + ((D - b2) + (C - (D - b2) - e + d2) - y2) = E2
  generalize hF2 : D + e2 = F2
  obtain ⟨b3, d3, e3, x3, y3, hb3, hd3, he3, hx3, hy3, r1, r2, r3, r4⟩ := step A B C2 D2
  rw [r1, r2, r3, r4]
  clear r1 r2 r3 r4
  obtain ⟨b4, d4, e4, x4, y4, hb4, hd4, he4, hx4, hy4, r1, r2, r3, r4⟩ := step c d e f
  rw [r1, r2, r3, r4]
  clear r1 r2 r3 r4
  generalize hC4 : c + b4 + x4 = C4
  generalize hD4 : f - e4 = D4
  generalize hE4 : e + (f - d4) + ((d - b4) + (c - (d - b4) - e + d4) - y4) = E4
  generalize hF4 : d + e4 = F4
  obtain ⟨b5, d5, e5, x5, y5, hb5, hd5, he5, hx5, hy5, r1, r2, r3, r4⟩ := step a b C4 D4
  rw [r1, r2, r3, r4]
  clear r1 r2 r3 r4
  generalize hC5 : C4 + (D4 - d5) + ((b - b5) + (a - (b - b5) - C4 + d5) - y5) = C5
  generalize hD5 : b + e5 = D5
  obtain ⟨b6, d6, e6, x6, y6, hb6, hd6, he6, hx6, hy6, r1, r2, r3, r4⟩ := step C5 D5 E4 F4
  rw [r1, r2, r3, r4]
  clear r1 r2 r3 r4
  have ok : BZ.Ok BZ.FF [b2, d2, e2, x2, y2, b3, d3, e3, x3, y3, b4, d4, e4, x4, y4, b5, d5, e5, x5, y5, b6, d6, e6, x6, y6] [a, b, c, d, e, f, b1, d1, e1, x1, y1] := by
    unfold BZ.FF
    refine ⟨?_, ?_, ?_, ?_, ?_, ?_, ?_, ?_, ?_, ?_, ?_, ?_, ?_, ?_, ?_, ?_, ?_, ?_, ?_, ?_, ?_, ?_, ?_, ?_, ?_, trivial⟩ <;> simp only [List.cons_append, List.nil_append, BZ.dot] <;> show _ = pp _
    · refine hb2.trans (congrArg pp ?_); omega
    · refine hd2.trans (congrArg pp ?_); omega
    · refine he2.trans (congrArg pp ?_); omega
    · refine hx2.trans (congrArg pp ?_); omega
    · refine hy2.trans (congrArg pp ?_); omega
    · refine hb3.trans (congrArg pp ?_); omega
    · refine hd3.trans (congrArg pp ?_); omega
    · refine he3.trans (congrArg pp ?_); omega
    · refine hx3.trans (congrArg pp ?_); omega
    · refine hy3.trans (congrArg pp ?_); omega
    · refine hb4.trans (congrArg pp ?_); omega
    · refine hd4.trans (congrArg pp ?_); omega
    · refine he4.trans (congrArg pp ?_); omega
    · refine hx4.trans (congrArg pp ?_); omega
    · refine hy4.trans (congrArg pp ?_); omega
    · refine hb5.trans (congrArg pp ?_); omega
    · refine hd5.trans (congrArg pp ?_); omega
    · refine he5.trans (congrArg pp ?_); omega
    · refine hx5.trans (congrArg pp ?_); omega
    · refine hy5.trans (congrArg pp ?_); omega
    · refine hb6.trans (congrArg pp ?_); omega
    · refine hd6.trans (congrArg pp ?_); omega
    · refine he6.trans (congrArg pp ?_); omega
    · refine hx6.trans (congrArg pp ?_); omega
    · refine hy6.trans (congrArg pp ?_); omega
  have z := BZ.five (e := e) (f := f) hb1 hd1 he1 hx1 hy1 ok
  unfold BZ.GG at z
  have z1 := z _ (List.mem_cons_self)
  have z2 := z _ (List.mem_cons_of_mem _ List.mem_cons_self)
  have z3 := z _ (List.mem_cons_of_mem _ (List.mem_cons_of_mem _ List.mem_cons_self))
  have z4 := z _ (List.mem_cons_of_mem _ (List.mem_cons_of_mem _ (List.mem_cons_of_mem _ List.mem_cons_self)))
  have z5 := z _ (List.mem_cons_of_mem _ (List.mem_cons_of_mem _ (List.mem_cons_of_mem _ (List.mem_cons_of_mem _ List.mem_cons_self))))
  have z6 := z _ (List.mem_cons_of_mem _ (List.mem_cons_of_mem _ (List.mem_cons_of_mem _ (List.mem_cons_of_mem _ (List.mem_cons_of_mem _ List.mem_cons_self)))))
  simp only [List.cons_append, List.nil_append, BZ.dot] at z1 z2 z3 z4 z5 z6
  clear z ok hb1 hd1 he1 hx1 hy1 hb2 hd2 he2 hx2 hy2 hb3 hd3 he3 hx3 hy3 hb4 hd4 he4 hx4 hy4 hb5 hd5 he5 hx5 hy5 hb6 hd6 he6 hx6 hy6
  subst hA hB hC hD hC2 hD2 hE2 hF2 hC4 hD4 hE4 hF4 hC5 hD5
  refine ⟨?_, ?_, ?_, ?_, ?_, ?_⟩ <;> omega
end CU
namespace CU
/-- a negative letter on two strands -/
def m1 (a b c d : Int) : Int := a - pp b - pp (pp d + (a + (b - pp b) - c - pp d))
def m2 (a b c d : Int) : Int := d + ((a + (b - pp b) - c - pp d) - pp (a + (b - pp b) - c - pp d))
def m3 (a b c d : Int) : Int := c - (d - pp d) - ((b - pp b) - (a + (b - pp b) - c - pp d) - pp ((b - pp b) - (a + (b - pp b) - c - pp d)))
def m4 (a b c d : Int) : Int := b - ((a + (b - pp b) - c - pp d) - pp (a + (b - pp b) - c - pp d))
theorem mq (a b c d : Int) : m1 (q1 a b c d) (q2 a b c d) (q3 a b c d) (q4 a b c d) = a ∧ m2 (q1 a b c d) (q2 a b c d) (q3 a b c d) (q4 a b c d) = b ∧ m3 (q1 a b c d) (q2 a b c d) (q3 a b c d) (q4 a b c d) = c ∧ m4 (q1 a b c d) (q2 a b c d) (q3 a b c d) (q4 a b c d) = d := by
  unfold m1 m2 m3 m4 q1 q2 q3 q4 pp
  refine ⟨?_, ?_, ?_, ?_⟩ <;> omega
theorem qm (a b c d : Int) : q1 (m1 a b c d) (m2 a b c d) (m3 a b c d) (m4 a b c d) = a ∧ q2 (m1 a b c d) (m2 a b c d) (m3 a b c d) (m4 a b c d) = b ∧ q3 (m1 a b c d) (m2 a b c d) (m3 a b c d) (m4 a b c d) = c ∧ q4 (m1 a b c d) (m2 a b c d) (m3 a b c d) (m4 a b c d) = d := by
  unfold m1 m2 m3 m4 q1 q2 q3 q4 pp
  refine ⟨?_, ?_, ?_, ?_⟩ <;> omega
abbrev Cv := Nat → Int × Int
/-- the positive letter k, the negative one -/
def up (k : Nat) (c : Cv) : Cv := fun i => if i = k then (q3 (c (k - 1)).1 (c (k - 1)).2 (c k).1 (c k).2, q4 (c (k - 1)).1 (c (k - 1)).2 (c k).1 (c k).2) else if i = k - 1 then (q1 (c (k - 1)).1 (c (k - 1)).2 (c k).1 (c k).2, q2 (c (k - 1)).1 (c (k - 1)).2 (c k).1 (c k).2) else c i
def dn (k : Nat) (c : Cv) : Cv := fun i => if i = k then (m3 (c (k - 1)).1 (c (k - 1)).2 (c k).1 (c k).2, m4 (c (k - 1)).1 (c (k - 1)).2 (c k).1 (c k).2) else if i = k - 1 then (m1 (c (k - 1)).1 (c (k - 1)).2 (c k).1 (c k).2, m2 (c (k - 1)).1 (c (k - 1)).2 (c k).1 (c k).2) else c i
section
variable {k j : Nat} {c : Cv}
theorem up_k : up k c k = (q3 (c (k - 1)).1 (c (k - 1)).2 (c k).1 (c k).2, q4 (c (k - 1)).1 (c (k - 1)).2 (c k).1 (c k).2) := if_pos rfl
theorem up_p (h : 1 ≤ k) : up k c (k - 1) = (q1 (c (k - 1)).1 (c (k - 1)).2 (c k).1 (c k).2, q2 (c (k - 1)).1 (c (k - 1)).2 (c k).1 (c k).2) := by
  unfold up
  rw [if_neg (by omega), if_pos rfl]
theorem up_o {i : Nat} (h1 : i ≠ k) (h2 : i ≠ k - 1) : up k c i = c i := by
  unfold up
  rw [if_neg h1, if_neg h2]
theorem dn_k : dn k c k = (m3 (c (k - 1)).1 (c (k - 1)).2 (c k).1 (c k).2, m4 (c (k - 1)).1 (c (k - 1)).2 (c k).1 (c k).2) := if_pos rfl
theorem dn_p (h : 1 ≤ k) : dn k c (k - 1) = (m1 (c (k - 1)).1 (c (k - 1)).2 (c k).1 (c k).2, m2 (c (k - 1)).1 (c (k - 1)).2 (c k).1 (c k).2) := by
  unfold dn
  rw [if_neg (by omega), if_pos rfl]
theorem dn_o {i : Nat} (h1 : i ≠ k) (h2 : i ≠ k - 1) : dn k c i = c i := by
  unfold dn
  rw [if_neg h1, if_neg h2]
theorem dn_up (h : 1 ≤ k) : dn k (up k c) = c := by
  funext i
  obtain ⟨e1, e2, e3, e4⟩ := mq (c (k - 1)).1 (c (k - 1)).2 (c k).1 (c k).2
  by_cases h1 : i = k
  · subst h1
    rw [dn_k, up_k, up_p h]
    simp only [e3, e4]
  · by_cases h2 : i = k - 1
    · subst h2
      rw [dn_p h, up_k, up_p h]
      simp only [e1, e2]
    · rw [dn_o h1 h2, up_o h1 h2]
theorem up_dn (h : 1 ≤ k) : up k (dn k c) = c := by
  funext i
  obtain ⟨e1, e2, e3, e4⟩ := qm (c (k - 1)).1 (c (k - 1)).2 (c k).1 (c k).2
  by_cases h1 : i = k
  · subst h1
    rw [up_k, dn_k, dn_p h]
    simp only [e3, e4]
  · by_cases h2 : i = k - 1
    · subst h2
      rw [up_p h, dn_k, dn_p h]
      simp only [e1, e2]
    · rw [up_o h1 h2, dn_o h1 h2]
theorem up_turn (h : 1 ≤ k) : up k (up (k + 1) (up k c)) = up (k + 1) (up k (up (k + 1) c)) := by
  obtain ⟨e1, e2, e3, e4, e5, e6⟩ := braid6 (c (k - 1)).1 (c (k - 1)).2 (c k).1 (c k).2 (c (k + 1)).1 (c (k + 1)).2
  have p1 : ∀ c : Cv, up (k + 1) c k = (q1 (c k).1 (c k).2 (c (k + 1)).1 (c (k + 1)).2, q2 (c k).1 (c k).2 (c (k + 1)).1 (c (k + 1)).2) := fun c => up_p (k := k + 1) (by omega)
  have p2 : ∀ c : Cv, up (k + 1) c (k + 1) = (q3 (c k).1 (c k).2 (c (k + 1)).1 (c (k + 1)).2, q4 (c k).1 (c k).2 (c (k + 1)).1 (c (k + 1)).2) := fun c => up_k (k := k + 1)
  have p3 : ∀ c : Cv, up (k + 1) c (k - 1) = c (k - 1) := fun c => up_o (by omega) (by omega)
  have p4 : ∀ c : Cv, up k c (k + 1) = c (k + 1) := fun c => up_o (by omega) (by omega)
  have p5 : ∀ c : Cv, up k c k = _ := fun c => up_k
  have p6 : ∀ c : Cv, up k c (k - 1) = _ := fun c => up_p h
  funext i
  by_cases h1 : i = k + 1
  · subst h1
    simp only [p1, p2, p3, p4, p5, p6]
    rw [e5, e6]
  · by_cases h2 : i = k
    · subst h2
      simp only [p1, p2, p3, p4, p5, p6]
      rw [e3, e4]
    · by_cases h3 : i = k - 1
      · subst h3
        simp only [p1, p2, p3, p4, p5, p6]
        rw [e1, e2]
      · rw [up_o h2 h3, up_o h1 (by omega), up_o h2 h3, up_o h1 (by omega), up_o h2 h3, up_o h1 (by omega)]
theorem dn_turn (h : 1 ≤ k) : dn k (dn (k + 1) (dn k c)) = dn (k + 1) (dn k (dn (k + 1) c)) := by
  have h' : 1 ≤ k + 1 := by omega
  have e : ∀ c, dn k (dn (k + 1) (dn k (up k (up (k + 1) (up k c))))) = c := fun c => by rw [dn_up h, dn_up h', dn_up h]
  have e' : ∀ c, up (k + 1) (up k (up (k + 1) (dn (k + 1) (dn k (dn (k + 1) c))))) = c := fun c => by rw [up_dn h', up_dn h, up_dn h']
  have q := e (dn (k + 1) (dn k (dn (k + 1) c)))
  rw [up_turn h, e'] at q
  exact q
end
/-- a letter carries -/
def car (w : Int) (c : Cv) : Cv := if 0 < w then up w.natAbs c else dn w.natAbs c
theorem car_back {w : Int} (h : w ≠ 0) (c : Cv) : car (-w) (car w c) = c := by
  unfold car
  rw [Int.natAbs_neg]
  by_cases q : 0 < w
  · rw [if_pos q, if_neg (by omega)]
    exact dn_up (by omega)
  · rw [if_neg q, if_pos (by omega)]
    exact up_dn (by omega)
theorem car_o {w : Int} {c : Cv} {i : Nat} (h1 : i ≠ w.natAbs) (h2 : i ≠ w.natAbs - 1) : car w c i = c i := by
  unfold car
  split
  · exact up_o h1 h2
  · exact dn_o h1 h2
/-- what a letter makes at its own places hangs on these alone -/
theorem car_two {w : Int} {c c' : Cv} (h1 : c w.natAbs = c' w.natAbs) (h2 : c (w.natAbs - 1) = c' (w.natAbs - 1)) {i : Nat} (hi : i = w.natAbs ∨ i = w.natAbs - 1) : car w c i = car w c' i := by
  unfold car up dn
  split
  · by_cases z : i = w.natAbs
    · simp only [if_pos z, h1, h2]
    · simp only [if_neg z, if_pos (hi.resolve_left z), h1, h2]
  · by_cases z : i = w.natAbs
    · simp only [if_pos z, h1, h2]
    · simp only [if_neg z, if_pos (hi.resolve_left z), h1, h2]
theorem car_far {w v : Int} (h1 : w ≠ 0) (h2 : v ≠ 0) (h : w.natAbs + 2 ≤ v.natAbs ∨ v.natAbs + 2 ≤ w.natAbs) (c : Cv) : car w (car v c) = car v (car w c) := by
  funext i
  by_cases a : i = w.natAbs ∨ i = w.natAbs - 1
  · have nv1 : i ≠ v.natAbs := by omega
    have nv2 : i ≠ v.natAbs - 1 := by omega
    rw [car_o (w := v) nv1 nv2]
    exact car_two (car_o (by omega) (by omega)) (car_o (by omega) (by omega)) a
  · have nw1 : i ≠ w.natAbs := fun z => a (.inl z)
    have nw2 : i ≠ w.natAbs - 1 := fun z => a (.inr z)
    rw [car_o (w := w) nw1 nw2]
    by_cases b : i = v.natAbs ∨ i = v.natAbs - 1
    · exact (car_two (car_o (by omega) (by omega)) (car_o (by omega) (by omega)) b).symm
    · have nv1 : i ≠ v.natAbs := fun z => b (.inl z)
      have nv2 : i ≠ v.natAbs - 1 := fun z => b (.inr z)
      rw [car_o (w := v) nv1 nv2, car_o (w := v) nv1 nv2, car_o (w := w) nw1 nw2]
theorem car_turn {w v : Int} (h1 : w ≠ 0) (h2 : v ≠ 0) (hs : 0 < w ↔ 0 < v) (h : v = w + 1 ∨ w = v + 1) (c : Cv) : car w (car v (car w c)) = car v (car w (car v c)) := by
  have key : ∀ {w v : Int}, w ≠ 0 → v ≠ 0 → (0 < w ↔ 0 < v) → v.natAbs = w.natAbs + 1 → ∀ c, car w (car v (car w c)) = car v (car w (car v c)) := fun {w v} h1 h2 hs h c => by
    unfold car
    by_cases q : 0 < w
    · simp only [if_pos q, if_pos (hs.mp q), h]
      exact up_turn (by omega)
    · simp only [if_neg q, if_neg (fun z => q (hs.mpr z)), h]
      exact dn_turn (by omega)
  rcases (show v.natAbs = w.natAbs + 1 ∨ w.natAbs = v.natAbs + 1 by omega) with e | e
  · exact key h1 h2 hs e c
  · exact (key h2 h1 hs.symm e c).symm
/-- a word carries -/
def carW (ws : List Int) (c : Cv) : Cv := ws.foldl (fun c w => car w c) c
theorem carW_app (us vs : List Int) (c : Cv) : carW (us ++ vs) c = carW vs (carW us c) := List.foldl_append
/-- the moves of point 5, without their places -/
inductive Mv : List Int → List Int → Prop
  | out (a : Int) (h : a ≠ 0) : Mv [a, -a] []
  | inn (a : Int) (h : a ≠ 0) : Mv [] [a, -a]
  | far (a b : Int) (h1 : a ≠ 0) (h2 : b ≠ 0) (h : a.natAbs + 2 ≤ b.natAbs ∨ b.natAbs + 2 ≤ a.natAbs) : Mv [a, b] [b, a]
  | turn (a b : Int) (h1 : a ≠ 0) (h2 : b ≠ 0) (hs : 0 < a ↔ 0 < b) (h : b = a + 1 ∨ a = b + 1) : Mv [a, b, a] [b, a, b]
theorem carW_mv {o n : List Int} (h : Mv o n) (c : Cv) : carW o c = carW n c := by
  cases h with
  | out a h => exact car_back h c
  | inn a h => exact (car_back h c).symm
  | far a b h1 h2 h => exact (car_far h2 h1 (h.symm) c)
  | turn a b h1 h2 hs h => exact car_turn h1 h2 hs h c
/-- alike words -/
inductive Alike : List Int → List Int → Prop
  | refl (u : List Int) : Alike u u
  | step {u o n v w : List Int} (h : Mv o n) (r : Alike (u ++ n ++ v) w) : Alike (u ++ o ++ v) w
theorem carW_alike {u v : List Int} (h : Alike u v) (c : Cv) : carW u c = carW v c := by
  induction h with
  | refl u => rfl
  | step m r ih =>
    rw [← ih, carW_app, carW_app, carW_app, carW_app, carW_mv m]
end CU
/-! The reduction ends. -/
namespace GA
/-! ### letters as integers, curves -/
def li (c : Lt) : Int := if c.2 then (c.1 : Int) + 1 else -((c.1 : Int) + 1)
theorem li_ne (c : Lt) : li c ≠ 0 := by unfold li; split <;> omega
theorem li_abs (c : Lt) : (li c).natAbs = c.1 + 1 := by unfold li; split <;> omega
theorem li_fl (c : Lt) : li (fl c) = -li c := by
  obtain ⟨i, s⟩ := c
  unfold li fl
  cases s <;> simp
theorem li_pos (c : Lt) : 0 < li c ↔ c.2 = true := by
  unfold li
  split
  · rename_i h; exact ⟨fun _ => h, fun _ => by omega⟩
  · rename_i h; exact ⟨fun z => by omega, fun z => absurd z h⟩
theorem m1_mv {o n : List Lt} (h : M1 o n) : CU.Mv (o.map li) (n.map li) := by
  cases h with
  | out i s =>
    have : [(i, s), (i, !s)].map li = [li (i, s), -li (i, s)] := by
      rw [← li_fl]; rfl
    rw [this]
    exact .out _ (li_ne _)
  | far i j s t f =>
    refine .far _ _ (li_ne _) (li_ne _) ?_
    rw [li_abs, li_abs]
    dsimp
    omega
  | turn i j s f =>
    refine .turn _ _ (li_ne _) (li_ne _) ?_ ?_
    · rw [li_pos, li_pos]
    · unfold li
      dsimp
      cases s
      · simp only [Bool.false_eq_true, if_false]; omega
      · simp only [if_true]; omega
theorem al_car {u v : List Lt} (h : Al u v) (c : CU.Cv) : CU.carW (u.map li) c = CU.carW (v.map li) c := by
  induction h generalizing c with
  | refl u => rfl
  | symm _ ih => exact (ih c).symm
  | trans _ _ i1 i2 => exact (i1 c).trans (i2 c)
  | mv x y h =>
    simp only [List.map_append, CU.carW_app]
    rw [CU.carW_mv (m1_mv h)]
theorem pp_nn (x : Int) : 0 ≤ CU.pp x := by unfold CU.pp; split <;> omega
/-- the sign of e -/
def sg (e : Bool) : Int := if e then 1 else -1
theorem acyc_car {K : Nat} {e : Bool} : ∀ {U : List Lt} {c : CU.Cv}, Nn K e U → (c K = (0, 1) ∨ 0 < sg e * (c K).1) → ((K, e) ∈ U ∨ 0 < sg e * (c K).1) → 0 < sg e * (CU.carW (U.map li) c K).1
  | [], c, _, _, h => by
    rcases h with h | h
    · cases h
    · exact h
  | x :: U, c, hn, h0, h => by
    obtain ⟨n1, n2⟩ := hn x List.mem_cons_self
    show 0 < sg e * (CU.carW (U.map li) (CU.car (li x) c) K).1
    have hn' : Nn K e U := fun d hd => hn d (List.mem_cons_of_mem _ hd)
    by_cases q : x.1 = K
    · have hx : x = (K, e) := by
        obtain ⟨i, s⟩ := x
        dsimp at q
        subst q
        have : s = e := by
          cases s <;> cases e <;> first | rfl | exact absurd rfl n2
        rw [this]
      subst hx
      have key : 0 < sg e * (CU.car (li (K, e)) c K).1 := by
        unfold CU.car
        rw [li_abs]
        dsimp only
        have e1 : K + 1 - 1 = K := by omega
        cases e with
        | true =>
          rw [if_pos (by rw [li_pos])]
          have := CU.up_p (k := K + 1) (c := c) (by omega)
          rw [e1] at this
          rw [this]
          unfold CU.q1 sg
          have p1 := pp_nn (c K).2
          have p2 := pp_nn (CU.pp (c (K + 1)).2 - ((c K).1 - ((c K).2 - CU.pp (c K).2) - (c (K + 1)).1 + CU.pp (c (K + 1)).2))
          dsimp only
          rw [if_pos rfl]
          rcases h0 with h0 | h0
          · rw [h0] at p2 ⊢
            have : CU.pp 1 = 1 := rfl
            dsimp only at p2 ⊢
            rw [this] at p2 ⊢
            omega
          · unfold sg at h0
            rw [if_pos rfl] at h0
            omega
        | false =>
          rw [if_neg (by rw [li_pos]; simp)]
          have := CU.dn_p (k := K + 1) (c := c) (by omega)
          rw [e1] at this
          rw [this]
          unfold CU.m1 sg
          have p1 := pp_nn (c K).2
          have p2 := pp_nn (CU.pp (c (K + 1)).2 + ((c K).1 + ((c K).2 - CU.pp (c K).2) - (c (K + 1)).1 - CU.pp (c (K + 1)).2))
          dsimp only
          rw [if_neg (by simp)]
          rcases h0 with h0 | h0
          · rw [h0] at p2 ⊢
            have : CU.pp 1 = 1 := rfl
            dsimp only at p2 ⊢
            rw [this] at p2 ⊢
            omega
          · unfold sg at h0
            rw [if_neg (by simp)] at h0
            omega
      exact acyc_car hn' (.inr key) (.inr key)
    · have hc : CU.car (li x) c K = c K := CU.car_o (by rw [li_abs]; omega) (by rw [li_abs]; omega)
      refine acyc_car hn' (by rw [hc]; exact h0) ?_
      rw [hc]
      rcases h with h | h
      · rcases List.mem_cons.mp h with z | z
        · exact absurd (by rw [← z]) q
        · exact .inl z
      · exact .inr h
/-- such a word is not plain -/
theorem acyc {K : Nat} {e : Bool} {U : List Lt} (hn : Nn K e U) (h : (K, e) ∈ U) : gw U ≠ 1 := fun z => by
  have a : Al U [] := gw_exact z
  have q := acyc_car (c := fun _ => (0, 1)) hn (.inl rfl) (.inl h)
  rw [al_car a] at q
  have : CU.carW (([] : List Lt).map li) (fun _ => ((0 : Int), (1 : Int))) K = (0, 1) := rfl
  rw [this] at q
  dsimp at q
  omega
/-! ### whole turns in front -/
def d2 (m : Nat) : BG := pv (dd m)
def dk (m : Nat) : Nat → BG
  | 0 => 1
  | n + 1 => d2 m * dk m n
theorem d2_g {m i : Nat} (h : i < m) : d2 m * g i = g i * d2 m := by
  have := pv_pe (dd_central h [])
  rw [List.append_nil, pv_app] at this
  rw [show pv (i :: dd m) = g i * pv (dd m) from pv_cons _ _] at this
  exact this
theorem d2_gl {m : Nat} {c : Lt} (h : c.1 < m) : d2 m * gl c = gl c * d2 m := by
  obtain ⟨i, s⟩ := c
  cases s with
  | true => exact d2_g h
  | false =>
    show d2 m * (g i)⁻¹ = (g i)⁻¹ * d2 m
    refine cancel_l (a := g i) (cancel_r (a := g i) ?_)
    simp only [mul_assoc, inv_mul, mul_one, mul_inv_l]
    exact (d2_g h).symm
theorem d2_gw {m : Nat} : ∀ {u : List Lt}, (∀ c ∈ u, c.1 < m) → d2 m * gw u = gw u * d2 m
  | [], _ => by rw [gw_nil, mul_one, one_mul]
  | c :: u, h => by rw [gw_cons, ← mul_assoc, d2_gl (h c List.mem_cons_self), mul_assoc, d2_gw fun d hd => h d (List.mem_cons_of_mem _ hd), mul_assoc]
theorem dk_gw {m : Nat} {u : List Lt} (h : ∀ c ∈ u, c.1 < m) : ∀ n, dk m n * gw u = gw u * dk m n
  | 0 => by show 1 * gw u = gw u * 1; rw [one_mul, mul_one]
  | n + 1 => by
    show d2 m * dk m n * gw u = gw u * (d2 m * dk m n)
    rw [mul_assoc, dk_gw h n, ← mul_assoc, d2_gw h, mul_assoc]
theorem ps_d2 {m : Nat} : Ps m (d2 m) := ⟨dd m, dd_lt, rfl⟩
theorem ps_dk {m : Nat} : ∀ n, Ps m (dk m n)
  | 0 => .one
  | n + 1 => ps_d2.mul (ps_dk n)
theorem dk_add (m a b : Nat) : dk m (a + b) = dk m a * dk m b := by
  induction a with
  | zero => rw [Nat.zero_add]; exact (one_mul _).symm
  | succ a ih => rw [Nat.succ_add]; show d2 m * dk m (a + b) = d2 m * dk m a * dk m b; rw [ih, mul_assoc]
theorem ps_turns {m : Nat} : ∀ {u : List Lt}, (∀ c ∈ u, c.1 < m) → ∀ {n : Nat}, u.length ≤ n → Ps m (gw u * dk m n)
  | [], _, n, _ => by rw [gw_nil, one_mul]; exact ps_dk n
  | c :: u, h, n, hn => by
    cases n with
    | zero => cases hn
    | succ n =>
      have ih := ps_turns (u := u) (fun d hd => h d (List.mem_cons_of_mem _ hd)) (n := n) (by simpa using hn)
      have hc := h c List.mem_cons_self
      have e : gw (c :: u) * dk m (n + 1) = gl c * d2 m * (gw u * dk m n) := by
        show gw (c :: u) * (d2 m * dk m n) = _
        rw [gw_cons]
        simp only [mul_assoc]
        rw [← mul_assoc (gw u), ← d2_gw fun d hd => h d (List.mem_cons_of_mem _ hd), mul_assoc]
      rw [e]
      refine Ps.mul ?_ ih
      obtain ⟨i, s⟩ := c
      cases s with
      | true => exact (Ps.gen hc).mul ps_d2
      | false =>
        refine ⟨cc m i, cc_lt hc, ?_⟩
        have := pv_pe (cc_right (m := m) (i := i) hc)
        rw [pv_cons] at this
        show (g i)⁻¹ * d2 m = _
        unfold d2
        rw [← this, inv_mul_l]
theorem dr_of {S : BG → Prop} : ∀ {w : List Lt} {z : BG}, (∀ u v, w = u ++ v → S (z * gw u)) → Dr S z w
  | [], z, h => by have := h [] [] rfl; rwa [gw_nil, mul_one] at this
  | c :: w, z, h => ⟨by have := h [] (c :: w) rfl; rwa [gw_nil, mul_one] at this, dr_of fun u v e => by
      have := h (c :: u) v (by rw [e]; rfl)
      rwa [gw_cons, ← mul_assoc] at this⟩
theorem dr_start {m : Nat} {w : List Lt} (h : ∀ c ∈ w, c.1 < m) : Dr (Dv m (dk m (w.length + w.length))) (dk m w.length) w := by
  refine dr_of fun u v e => ?_
  have hu : ∀ c ∈ u, c.1 < m := fun c hc => h c (by rw [e]; simp [hc])
  have hi : ∀ c ∈ iv u, c.1 < m := fun c hc => (show (fl c).1 < m from hu _ (iv_mem hc))
  have hl : u.length ≤ w.length := by rw [e, List.length_append]; omega
  refine ⟨?_, ?_⟩
  · rw [dk_gw hu]
    exact ps_turns hu hl
  · have e2 : (dk m w.length * gw u)⁻¹ * dk m (w.length + w.length) = gw (iv u) * dk m w.length := by
      rw [dk_add, inv_prod, mul_assoc, inv_mul_l]
      rfl
    rw [e2]
    refine ps_turns hi ?_
    unfold iv
    rw [List.length_reverse, List.length_map]
    exact hl
/-! ### few divisors -/
def wl (m : Nat) : Nat → List (List Nat)
  | 0 => [[]]
  | n + 1 => [] :: (wl m n).flatMap fun p => (List.range m).map fun a => a :: p
theorem wl_mem {m : Nat} : ∀ {n : Nat} {p : List Nat}, (∀ a ∈ p, a < m) → p.length ≤ n → p ∈ wl m n
  | 0, [], _, _ => by simp [wl]
  | 0, a :: p, _, h => by cases h
  | n + 1, [], _, _ => by simp [wl]
  | n + 1, a :: p, ha, h => by
    refine List.mem_cons_of_mem _ (List.mem_flatMap.mpr ⟨p, wl_mem (fun b hb => ha b (List.mem_cons_of_mem _ hb)) (by simpa using h), List.mem_map.mpr ⟨a, List.mem_range.mpr (ha a List.mem_cons_self), rfl⟩⟩)
theorem dv_few {m : Nat} {b : List Nat} {x : BG} (h : Dv m (pv b) x) : ∃ p ∈ wl m b.length, x = pv p := by
  obtain ⟨⟨p, hp, rfl⟩, q, hq, e⟩ := h
  have : pv (p ++ q) = pv b := by rw [pv_app, ← e, mul_inv_l]
  have l := (pe_pv this).len
  rw [List.length_append] at l
  exact ⟨p, wl_mem hp (by omega), rfl⟩
theorem pigeon {α : Type} : ∀ (l : List α) (f : Nat → α), (∀ n, f n ∈ l) → ∃ i j, i < j ∧ f i = f j
  | [], f, h => by cases h 0
  | a :: l, f, h => by
    by_cases q : ∃ N, ∀ n, N ≤ n → f n ≠ a
    · obtain ⟨N, hN⟩ := q
      obtain ⟨i, j, h1, h2⟩ := pigeon l (fun n => f (N + n)) fun n => by
        rcases List.mem_cons.mp (h (N + n)) with z | z
        · exact absurd z (hN _ (Nat.le_add_right _ _))
        · exact z
      exact ⟨N + i, N + j, by omega, h2⟩
    · have inf : ∀ N, ∃ n, N ≤ n ∧ f n = a := fun N => by
        apply Classical.byContradiction
        intro z
        exact q ⟨N, fun n hn e => z ⟨n, hn, e⟩⟩
      obtain ⟨i, _, h1⟩ := inf 0
      obtain ⟨j, h2, h3⟩ := inf (i + 1)
      exact ⟨i, j, by omega, h1.trans h3.symm⟩
/-! ### no endless row -/
theorem endless_size {m : Nat} {kf : Nat → Nat} (h : ∀ t, kf t < m) : ∃ K T0, (∀ T, ∃ t, T ≤ t ∧ kf t = K) ∧ ∀ t, T0 ≤ t → K ≤ kf t := by
  have key : ∀ j, (∃ K T0, (∀ T, ∃ t, T ≤ t ∧ kf t = K) ∧ ∀ t, T0 ≤ t → K ≤ kf t) ∨ ∃ T0, ∀ t, T0 ≤ t → j ≤ kf t := fun j => by
    induction j with
    | zero => exact .inr ⟨0, fun t _ => Nat.zero_le _⟩
    | succ j ih =>
      rcases ih with ih | ⟨T0, ih⟩
      · exact .inl ih
      · by_cases q : ∀ T, ∃ t, T ≤ t ∧ kf t = j
        · exact .inl ⟨j, T0, q, ih⟩
        · have : ∃ T1, ∀ t, T1 ≤ t → kf t ≠ j := by
            apply Classical.byContradiction
            intro z
            refine q fun T => ?_
            apply Classical.byContradiction
            intro y
            exact z ⟨T, fun t ht e => y ⟨t, ht, e⟩⟩
          obtain ⟨T1, h1⟩ := this
          refine .inr ⟨T0 + T1, fun t ht => ?_⟩
          have a := ih t (by omega)
          have b := h1 t (by omega)
          omega
  rcases key m with k | ⟨T0, k⟩
  · exact k
  · have := k T0 (Nat.le_refl _)
    have := h T0
    omega
theorem rest_const {c : Nat → Nat} {T0 : Nat} (h : ∀ t, T0 ≤ t → c (t + 1) ≤ c t) : ∃ T1, T0 ≤ T1 ∧ ∀ t, T1 ≤ t → c (t + 1) = c t := by
  have key : ∀ (n T : Nat), T0 ≤ T → c T ≤ n → ∃ T1, T0 ≤ T1 ∧ ∀ t, T1 ≤ t → c (t + 1) = c t := by
    intro n
    induction n with
    | zero =>
      intro T hT hc
      have z : ∀ s, c (T + s) = 0 := fun s => by
        induction s with
        | zero => exact Nat.le_zero.mp hc
        | succ s ih => have := h (T + s) (by omega); rw [ih] at this; exact Nat.le_zero.mp this
      refine ⟨T, hT, fun t ht => ?_⟩
      have a := z (t - T)
      have b := z (t - T + 1)
      rw [show T + (t - T) = t by omega] at a
      rw [show T + (t - T + 1) = t + 1 by omega] at b
      rw [a, b]
    | succ n ih =>
      intro T hT hc
      by_cases q : ∃ t, T ≤ t ∧ c t ≤ n
      · obtain ⟨t, h1, h2⟩ := q
        exact ih t (by omega) h2
      · refine ⟨T, hT, fun t ht => ?_⟩
        have low : ∀ t, T ≤ t → n < c t := fun t ht => by
          apply Classical.byContradiction
          intro z
          exact q ⟨t, ht, by omega⟩
        have up : ∀ s, c (T + s) ≤ n + 1 := fun s => by
          induction s with
          | zero => exact hc
          | succ s ih => have := h (T + s) (by omega); exact Nat.le_trans this ih
        have a := up (t - T)
        have b := up (t - T + 1)
        rw [show T + (t - T) = t by omega] at a
        rw [show T + (t - T + 1) = t + 1 by omega] at b
        have := low t ht
        have := low (t + 1) (by omega)
        omega
  exact key (c T0) T0 (Nat.le_refl _) (Nat.le_refl _)
theorem Sp.small {m k : Nat} {u w : List Lt} (h : Sp m k u w) : k < m := by cases h; assumption
theorem Nn.app {K : Nat} {e : Bool} {a b : List Lt} (p : Nn K e a) (q : Nn K e b) : Nn K e (a ++ b) := fun c hc => by
  rcases List.mem_append.mp hc with z | z
  · exact p c z
  · exact q c z
theorem no_endless {m : Nat} {f : Nat → List Lt} {kf : Nat → Nat} (h0 : ∀ c ∈ f 0, c.1 < m) (hs : ∀ t, Sp m (kf t) (f t) (f (t + 1))) : False := by
  have hl : ∀ t, ∀ c ∈ f t, c.1 < m := fun t => by
    induction t with
    | zero => exact h0
    | succ t ih => exact (hs t).lt ih
  obtain ⟨b, hb, hbe⟩ := ps_dk (m := m) ((f 0).length + (f 0).length)
  have hd : ∀ t, Dr (Dv m (pv b)) (dk m (f 0).length) (f t) := fun t => by
    induction t with
    | zero => rw [← hbe]; exact dr_start h0
    | succ t ih => exact (hs t).dr (dv_cl m _) (hl t) ih
  obtain ⟨K, T0, inf, low⟩ := endless_size fun t => (hs t).small
  have mono : ∀ t, T0 ≤ t → chg (toks K (f (t + 1))) ≤ chg (toks K (f t)) := fun t ht => by
    have s := hs t
    by_cases q : kf t = K
    · rw [q] at s
      obtain ⟨e, x, _, h2, _⟩ := s.own
      exact h2
    · have := low t ht
      rw [(s.above (K := K) (by omega)).1]
      exact Nat.le_refl _
  obtain ⟨T1, hT, const⟩ := rest_const (c := fun t => chg (toks K (f t))) mono
  obtain ⟨t1, ht1, hk1⟩ := inf T1
  obtain ⟨e, x1, fr1, _, _⟩ := (show Sp m K _ _ from hk1 ▸ hs t1).own
  have one : ∀ t, T1 ≤ t → ∀ x, Fr K e (f t) x → ∃ x' r, Fr K e (f (t + 1)) x' ∧ gw x' = gw x * gw r ∧ Nn K (!e) r ∧ (kf t = K → (K, !e) ∈ r) := fun t ht x fr => by
    have s := hs t
    by_cases q : kf t = K
    · rw [q] at s
      obtain ⟨e2, x2, f2, _, h3⟩ := s.own
      obtain ⟨q1, q2⟩ := fr.uniq f2
      subst q1 q2
      obtain ⟨x', r, a1, a2, a3, a4⟩ := h3 (const t ht)
      exact ⟨x', r, a1, a2, a3, fun _ => a4⟩
    · have := low t (by omega)
      obtain ⟨x', r, a1, a2, a3⟩ := (s.above (K := K) (by omega)).2 e x fr
      refine ⟨x', r, a1, a2, fun c hc => ?_, fun z => absurd z q⟩
      have := a3 c hc
      refine ⟨by omega, fun z => ?_⟩
      rw [z] at this
      dsimp at this
      omega
  have many : ∀ s t, T1 ≤ t → ∀ x, Fr K e (f t) x → ∃ x' r, Fr K e (f (t + s)) x' ∧ gw x' = gw x * gw r ∧ Nn K (!e) r ∧ ((1 ≤ s ∧ kf t = K) → (K, !e) ∈ r) := fun s => by
    induction s with
    | zero => intro t ht x fr; exact ⟨x, [], fr, by rw [gw_nil, mul_one], fun c hc => (nomatch hc), fun z => by omega⟩
    | succ s ih =>
      intro t ht x fr
      obtain ⟨x', r, a1, a2, a3, a4⟩ := one t ht x fr
      obtain ⟨x2, r2, b1, b2, b3, _⟩ := ih (t + 1) (by omega) x' a1
      refine ⟨x2, r ++ r2, ?_, by rw [b2, a2, gw_app, mul_assoc], a3.app b3, fun z => List.mem_append_left _ (a4 z.2)⟩
      rw [show t + (s + 1) = t + 1 + s by omega]
      exact b1
  -- the times
  let nxt : Nat → Nat := fun T => Classical.choose (inf T)
  have n1 : ∀ T, T ≤ nxt T := fun T => (Classical.choose_spec (inf T)).1
  have n2 : ∀ T, kf (nxt T) = K := fun T => (Classical.choose_spec (inf T)).2
  let tau : Nat → Nat := fun n => Nat.rec (nxt t1) (fun _ p => nxt (p + 1)) n
  have tauS : ∀ n, tau n + 1 ≤ tau (n + 1) := fun n => n1 (tau n + 1)
  have tauK : ∀ n, kf (tau n) = K := fun n => by cases n with
    | zero => exact n2 _
    | succ n => exact n2 _
  have tauM : ∀ i s, tau i + s ≤ tau (i + s) := fun i s => by
    induction s with
    | zero => exact Nat.le_refl _
    | succ s ih => have := tauS (i + s); rw [show i + (s + 1) = i + s + 1 by omega]; omega
  have tau0 : ∀ n, t1 ≤ tau n := fun n => by
    have := tauM 0 n
    have := n1 t1
    rw [Nat.zero_add] at *
    exact Nat.le_trans this (by show tau 0 ≤ tau n; omega)
  have there : ∀ n, ∃ x, Fr K e (f (tau n)) x := fun n => by
    obtain ⟨x', r, a1, _⟩ := many (tau n - t1) t1 ht1 x1 fr1
    rw [show t1 + (tau n - t1) = tau n by have := tau0 n; omega] at a1
    exact ⟨x', a1⟩
  have word : ∀ n, ∃ p, p ∈ wl m b.length ∧ ∀ x, Fr K e (f (tau n)) x → dk m (f 0).length * gw x = pv p := fun n => by
    obtain ⟨x, fx⟩ := there n
    obtain ⟨y, h1, _⟩ := id fx
    have d := hd (tau n)
    rw [h1] at d
    obtain ⟨p, hp, e2⟩ := dv_few d.pre
    refine ⟨p, hp, fun x' fx' => ?_⟩
    rw [(fx'.uniq fx).1]
    exact e2
  obtain ⟨i, j, hij, same⟩ := pigeon (wl m b.length) (fun n => Classical.choose (word n)) fun n => (Classical.choose_spec (word n)).1
  obtain ⟨x, fx⟩ := there i
  have lt : tau i + 1 ≤ tau j := by
    have := tauM i (j - i)
    rw [show i + (j - i) = j by omega] at this
    omega
  obtain ⟨x', r, a1, a2, a3, a4⟩ := many (tau j - tau i) (tau i) (by have := tau0 i; omega) x fx
  rw [show tau i + (tau j - tau i) = tau j by omega] at a1
  have e1 := (Classical.choose_spec (word i)).2 x fx
  have e2 := (Classical.choose_spec (word j)).2 x' a1
  have e3 : dk m (f 0).length * gw x = dk m (f 0).length * gw x' := by rw [e1, e2, same]
  have e4 := cancel_l e3
  rw [a2] at e4
  have e5 : gw r = 1 := by
    refine cancel_l (a := gw x) ?_
    rw [mul_one]
    exact e4.symm
  exact acyc a3 (a4 ⟨by omega, tauK i⟩) e5
/-- each row of steps from a word ends -/
theorem sp_acc {m : Nat} (w : List Lt) (h : ∀ c ∈ w, c.1 < m) : Acc (fun b a => ∃ k, Sp m k a b) w := by
  apply Classical.byContradiction
  intro hn
  let W := { w : List Lt // (∀ c ∈ w, c.1 < m) ∧ ¬ Acc (fun b a => ∃ k, Sp m k a b) w }
  have next : ∀ w : W, ∃ w' : W, ∃ k, Sp m k w.1 w'.1 := fun w => by
    apply Classical.byContradiction
    intro z
    refine w.2.2 (Acc.intro _ fun b hb => ?_)
    apply Classical.byContradiction
    intro y
    obtain ⟨k, hk⟩ := hb
    exact z ⟨⟨b, hk.lt w.2.1, y⟩, k, hk⟩
  let nx : W → W := fun w => Classical.choose (next w)
  have hnx : ∀ w, ∃ k, Sp m k w.1 (nx w).1 := fun w => Classical.choose_spec (next w)
  let f : Nat → W := fun n => Nat.rec ⟨w, h, hn⟩ (fun _ p => nx p) n
  exact no_endless (f := fun n => (f n).1) (kf := fun n => Classical.choose (hnx (f n))) h fun t => Classical.choose_spec (hnx (f t))
end GA
/-! Each word has a handle that can be taken out, or a sense; so each plait is plain, or has a word with one sense. -/
namespace GA
theorem min_ex {P : Nat → Prop} (h : ∃ n, P n) : ∃ n, P n ∧ ∀ m, m < n → ¬ P m := by
  obtain ⟨n, h⟩ := h
  induction n using Nat.strongRecOn with
  | _ n ih =>
    by_cases q : ∃ m, m < n ∧ P m
    · obtain ⟨m, h1, h2⟩ := q
      exact ih m h1 h2
    · exact ⟨n, h, fun m hm hp => q ⟨m, hm, hp⟩⟩
/-- w has the handle x (k, e) v (k, not e) y -/
def Hd (w : List Lt) (k : Nat) (e : Bool) (x v y : List Lt) : Prop := w = x ++ (k, e) :: v ++ (k, !e) :: y ∧ ∀ c ∈ v, Inn k c
/-- the letters of one size have one sign, or two of them with nothing of the size between have not -/
theorem one_sign (j : Nat) : ∀ v : List Lt, (∃ d, ∀ c ∈ v, c.1 = j → c.2 = d) ∨ ∃ v1 s v2 v3, v = v1 ++ (j, s) :: v2 ++ (j, !s) :: v3 ∧ ∀ c ∈ v2, c.1 ≠ j
  | [] => .inl ⟨true, fun c h => (nomatch h)⟩
  | c :: v => by
    rcases one_sign j v with ⟨d, h⟩ | ⟨v1, s, v2, v3, h1, h2⟩
    · by_cases q : c.1 = j
      · by_cases z : ∀ b ∈ v, b.1 = j → b.2 = c.2
        · refine .inl ⟨c.2, fun b hb hj => ?_⟩
          rcases List.mem_cons.mp hb with rfl | hb
          · rfl
          · exact z b hb hj
        · -- the first letter of the size in v
          have key : ∀ v : List Lt, (∀ c ∈ v, c.1 = j → c.2 = d) → (∃ b ∈ v, b.1 = j) → ∃ v2 v3, v = v2 ++ (j, d) :: v3 ∧ ∀ c ∈ v2, c.1 ≠ j := fun v => by
            induction v with
            | nil => intro _ h; obtain ⟨b, hb, _⟩ := h; cases hb
            | cons a v ih =>
              intro hd h
              by_cases qa : a.1 = j
              · refine ⟨[], v, ?_, fun c h => (nomatch h)⟩
                have := hd a List.mem_cons_self qa
                obtain ⟨i, s⟩ := a
                dsimp at qa this
                rw [qa, this]
                rfl
              · obtain ⟨b, hb, hj⟩ := h
                rcases List.mem_cons.mp hb with rfl | hb
                · exact absurd hj qa
                · obtain ⟨v2, v3, h1, h2⟩ := ih (fun c hc => hd c (List.mem_cons_of_mem _ hc)) ⟨b, hb, hj⟩
                  refine ⟨a :: v2, v3, by rw [h1]; rfl, fun c hc => ?_⟩
                  rcases List.mem_cons.mp hc with rfl | hc
                  · exact qa
                  · exact h2 c hc
          have z' : ∃ b ∈ v, b.1 = j ∧ b.2 ≠ c.2 := by
            apply Classical.byContradiction
            intro y
            exact z fun b hb hj => Classical.byContradiction fun ne => y ⟨b, hb, hj, ne⟩
          obtain ⟨b, hb, hj, hne⟩ := z'
          obtain ⟨v2, v3, h1, h2⟩ := key v h ⟨b, hb, hj⟩
          have hdb := h b hb hj
          have e2 : d = !c.2 := by
            rw [← hdb]
            cases hc2 : c.2 <;> cases hb2 : b.2 <;> simp_all
          refine .inr ⟨[], c.2, v2, v3, ?_, h2⟩
          obtain ⟨i, s⟩ := c
          dsimp at q e2 ⊢
          rw [h1, q, e2]
      · refine .inl ⟨d, fun b hb hj => ?_⟩
        rcases List.mem_cons.mp hb with rfl | hb
        · exact absurd hj q
        · exact h b hb hj
    · exact .inr ⟨c :: v1, s, v2, v3, by rw [h1]; rfl, h2⟩
theorem toks_first {K : Nat} : ∀ {u : List Lt} {t : Option Bool} {T : List (Option Bool)}, toks K u = t :: T → ∃ u1 c u2, u = u1 ++ c :: u2 ∧ tk K c = some t ∧ toks K u1 = []
  | [], t, T, h => by cases h
  | c :: u, t, T, h => by
    cases hc : tk K c with
    | none =>
      have hc' : toks K [c] = [] := by simp [toks, hc]
      rw [toks_cons, hc', List.nil_append] at h
      obtain ⟨u1, c', u2, h1, h2, h3⟩ := toks_first h
      exact ⟨c :: u1, c', u2, by rw [h1]; rfl, h2, by rw [toks_cons, hc', h3]; rfl⟩
    | some t' =>
      have hc' : toks K [c] = [t'] := by simp [toks, hc]
      rw [toks_cons, hc'] at h
      injection h with h1 h2
      exact ⟨[], c, u, rfl, by rw [hc, h1], rfl⟩
/-- a change of sign is a handle -/
theorem chg_handle {k : Nat} : ∀ {u : List Lt}, chg (toks k u) ≠ 0 → ∃ s u1 u2 u3, Hd u k s u1 u2 u3
  | [], h => absurd rfl h
  | c :: u, h => by
    have up : (∃ s u1 u2 u3, Hd u k s u1 u2 u3) → ∃ s u1 u2 u3, Hd (c :: u) k s u1 u2 u3 := fun ⟨s, u1, u2, u3, h1, h2⟩ => ⟨s, c :: u1, u2, u3, by rw [h1]; rfl, h2⟩
    cases hc : tk k c with
    | none =>
      have hc' : toks k [c] = [] := by simp [toks, hc]
      rw [toks_cons, hc', List.nil_append] at h
      exact up (chg_handle h)
    | some t =>
      have hc' : toks k [c] = [t] := by simp [toks, hc]
      rw [toks_cons, hc'] at h
      by_cases q : chg (toks k u) = 0
      · cases hu : toks k u with
        | nil => rw [hu] at h; exact absurd rfl h
        | cons t' T =>
          rw [hu] at h q
          have h' : opp t t' + chg (t' :: T) ≠ 0 := h
          have o := opp_le t t'
          have o2 : opp t t' = 1 := by omega
          obtain ⟨e, rfl, rfl⟩ := opp_e o2
          obtain ⟨u1, c', u2, h1, h2, h3⟩ := toks_first hu
          have hce := tk_some hc
          have hce' := tk_some h2
          subst hce hce'
          exact ⟨e, [], u1, u2, by rw [h1]; rfl, no_toks h3⟩
      · exact up (chg_handle q)
/-- a word with a handle has one that can be taken out, ahead of which there is none of its size -/
theorem handle_step {m : Nat} {w : List Lt} (hl : ∀ c ∈ w, c.1 < m) (h : ∃ k e x v y, Hd w k e x v y) : ∃ k w', Sp m k w w' := by
  obtain ⟨n, ⟨k, e, x, v, y, hd, hn⟩, hmin⟩ := min_ex (P := fun n => ∃ k e x v y, Hd w k e x v y ∧ x.length + v.length = n) (by
    obtain ⟨k, e, x, v, y, h⟩ := h
    exact ⟨_, k, e, x, v, y, h, rfl⟩)
  obtain ⟨hw, hi⟩ := hd
  have hd1 : ∃ d, ∀ c ∈ v, c.1 = k + 1 → c.2 = d := by
    rcases one_sign (k + 1) v with q | ⟨v1, s, v2, v3, h1, h2⟩
    · exact q
    · exfalso
      refine hmin ((x ++ (k, e) :: v1).length + v2.length) ?_ ⟨k + 1, s, x ++ (k, e) :: v1, v2, v3 ++ (k, !e) :: y, ⟨?_, fun c hc => ⟨h2 c hc, ?_⟩⟩, rfl⟩
      · rw [← hn, h1]; simp only [List.length_append, List.length_cons]; omega
      · rw [hw, h1]; simp
      · have := (hi c (by rw [h1]; simp [hc])).1
        omega
  obtain ⟨d, hd1⟩ := hd1
  have hx : chg (toks k (x ++ [(k, e)])) = 0 := by
    apply Classical.byContradiction
    intro z
    obtain ⟨s, u1, u2, u3, h1, h2⟩ := chg_handle z
    have hl := congrArg List.length h1
    simp only [List.length_append, List.length_cons, List.length_nil] at hl
    refine hmin (u1.length + u2.length) (by omega) ⟨k, s, u1, u2, u3 ++ v ++ (k, !e) :: y, ⟨?_, h2⟩, rfl⟩
    have : w = (x ++ [(k, e)]) ++ (v ++ (k, !e) :: y) := by rw [hw]; simp
    rw [this, h1]
    simp
  refine ⟨k, x ++ red k e v ++ y, ?_⟩
  rw [hw]
  exact .mk x y v e d (hl (k, e) (by rw [hw]; simp)) (fun c hc => ⟨hi c hc, hd1 c hc⟩) hx (.nil _)
/-- a plait of m letters with a word of one sense -/
def Sn (m : Nat) (x : BG) (e : Bool) : Prop := ∃ K U, x = gw U ∧ (∀ c ∈ U, c.1 < m ∧ K ≤ c.1) ∧ Nn K e U ∧ (K, e) ∈ U
theorem no_handle_sense {m : Nat} {w : List Lt} (hl : ∀ c ∈ w, c.1 < m) (hne : w ≠ []) (h : ¬ ∃ k e x v y, Hd w k e x v y) : ∃ e, Sn m (gw w) e := by
  obtain ⟨K, ⟨a, ha, hK⟩, hmin⟩ := min_ex (P := fun n => ∃ a ∈ w, a.1 = n) (by
    cases w with
    | nil => exact absurd rfl hne
    | cons a w => exact ⟨_, a, List.mem_cons_self, rfl⟩)
  have low : ∀ c ∈ w, K ≤ c.1 := fun c hc => by
    apply Classical.byContradiction
    intro z
    exact hmin c.1 (by omega) ⟨c, hc, rfl⟩
  rcases one_sign K w with ⟨d, hd⟩ | ⟨v1, s, v2, v3, h1, h2⟩
  · refine ⟨d, K, w, rfl, fun c hc => ⟨hl c hc, low c hc⟩, fun c hc => ⟨by have := low c hc; omega, fun z => ?_⟩, ?_⟩
    · subst z
      have := hd _ hc rfl
      cases d <;> cases this
    · have := hd a ha hK
      obtain ⟨i, s⟩ := a
      dsimp at hK this
      rw [hK, this] at ha
      exact ha
  · exact absurd ⟨K, s, v1, v2, v3, h1, fun c hc => ⟨h2 c hc, by have := low c (by rw [h1]; simp [hc]); omega⟩⟩ h
theorem trichotomy {m : Nat} {w : List Lt} (hl : ∀ c ∈ w, c.1 < m) : gw w = 1 ∨ ∃ e, Sn m (gw w) e := by
  have key : ∀ w : List Lt, Acc (fun b a => ∃ k, Sp m k a b) w → (∀ c ∈ w, c.1 < m) → gw w = 1 ∨ ∃ e, Sn m (gw w) e := fun w ha => by
    induction ha with
    | intro w _ ih =>
      intro hl
      by_cases h : ∃ k e x v y, Hd w k e x v y
      · obtain ⟨k, w', s⟩ := handle_step hl h
        have := ih w' ⟨k, s⟩ (s.lt hl)
        rw [← s.gw] at this
        exact this
      · by_cases hne : w = []
        · rw [hne]; exact .inl rfl
        · exact .inr (no_handle_sense hl hne h)
  exact key w (sp_acc w hl) hl
/-! ### the sides -/
theorem Sn.ne {m : Nat} {x : BG} {e : Bool} (h : Sn m x e) : x ≠ 1 := by
  obtain ⟨K, U, rfl, _, hn, hm⟩ := h
  exact acyc hn hm
theorem Sn.inv {m : Nat} {x : BG} {e : Bool} (h : Sn m x e) : Sn m x⁻¹ (!e) := by
  obtain ⟨K, U, rfl, h1, hn, hm⟩ := h
  refine ⟨K, iv U, rfl, fun c hc => h1 (fl c) (iv_mem hc), fun c hc => ⟨(hn (fl c) (iv_mem hc)).1, fun z => (hn (fl c) (iv_mem hc)).2 ?_⟩, ?_⟩
  · rw [z]; simp [fl]
  · unfold iv
    rw [List.mem_reverse]
    exact List.mem_map.mpr ⟨(K, e), hm, rfl⟩
theorem Sn.mul {m : Nat} {x y : BG} {e : Bool} (h : Sn m x e) (k : Sn m y e) : Sn m (x * y) e := by
  obtain ⟨K, U, rfl, h1, h2, h3⟩ := h
  obtain ⟨L, V, rfl, k1, k2, k3⟩ := k
  have side : ∀ {A : Nat} {W : List Lt}, (∀ c ∈ W, c.1 < m ∧ A ≤ c.1) → ∀ B, B < A → Nn B e W := fun h B hB c hc => by
    have := h c hc
    refine ⟨by omega, fun z => ?_⟩
    rw [z] at this
    dsimp at this
    omega
  rcases Nat.lt_trichotomy K L with q | q | q
  · exact ⟨K, U ++ V, rfl, fun c hc => by
      rcases List.mem_append.mp hc with z | z
      · exact h1 c z
      · have := k1 c z; exact ⟨this.1, by omega⟩, h2.app (side k1 K q), List.mem_append_left _ h3⟩
  · subst q
    exact ⟨K, U ++ V, rfl, fun c hc => by
      rcases List.mem_append.mp hc with z | z
      · exact h1 c z
      · exact k1 c z, h2.app k2, List.mem_append_left _ h3⟩
  · exact ⟨L, U ++ V, rfl, fun c hc => by
      rcases List.mem_append.mp hc with z | z
      · have := h1 c z; exact ⟨this.1, by omega⟩
      · exact k1 c z, (side h1 L q).app k2, List.mem_append_right _ k3⟩
theorem Sn.one_side {m : Nat} {x : BG} {e : Bool} (h : Sn m x e) (k : Sn m x (!e)) : False := by
  · cases e
    · have q := (h.mul (by have := k.inv; simpa using this))
      rw [mul_inv] at q
      exact q.ne rfl
    · have q := (h.mul (by have := k.inv; simpa using this))
      rw [mul_inv] at q
      exact q.ne rfl
/-- a plait of m letters -/
def Im (m : Nat) (x : BG) : Prop := ∃ w, (∀ c ∈ w, c.1 < m) ∧ x = gw w
theorem Im.mul {m : Nat} {x y : BG} (h : Im m x) (k : Im m y) : Im m (x * y) := by
  obtain ⟨u, h, rfl⟩ := h
  obtain ⟨v, k, rfl⟩ := k
  refine ⟨u ++ v, fun c hc => ?_, rfl⟩
  rcases List.mem_append.mp hc with z | z
  · exact h c z
  · exact k c z
theorem Im.inv {m : Nat} {x : BG} (h : Im m x) : Im m x⁻¹ := by
  obtain ⟨u, h, rfl⟩ := h
  exact ⟨iv u, fun c hc => h (fl c) (iv_mem hc), rfl⟩
theorem Im.one {m : Nat} : Im m 1 := ⟨[], fun c h => (nomatch h), rfl⟩
theorem Im.tri {m : Nat} {x : BG} (h : Im m x) : x = 1 ∨ ∃ e, Sn m x e := by
  obtain ⟨w, h, rfl⟩ := h
  exact trichotomy h
open Classical in
/-- the side on which a plait lies: 0, 1, -1 -/
noncomputable def side (m : Nat) (x : BG) : Int := if Sn m x true then 1 else if Sn m x false then -1 else 0
theorem side_sn {m : Nat} {x : BG} {e : Bool} (h : Sn m x e) : side m x = sg e := by
  unfold side
  cases e with
  | true => rw [if_pos h]; rfl
  | false => rw [if_neg fun z => z.one_side h, if_pos h]; rfl
theorem side_one {m : Nat} : side m 1 = 0 := by
  unfold side
  rw [if_neg fun z => z.ne rfl, if_neg fun z => z.ne rfl]
theorem sn_side {m : Nat} {x : BG} (h : Im m x) : (side m x = 0 ↔ x = 1) ∧ ∀ e, side m x = sg e ↔ Sn m x e := by
  rcases h.tri with rfl | ⟨e, q⟩
  · refine ⟨⟨fun _ => rfl, fun _ => side_one⟩, fun e => ⟨fun z => ?_, fun z => absurd rfl z.ne⟩⟩
    rw [side_one] at z
    cases e <;> cases z
  · have s := side_sn q
    refine ⟨⟨fun z => ?_, fun z => absurd z q.ne⟩, fun e' => ⟨fun z => ?_, fun z => side_sn z⟩⟩
    · rw [s] at z; cases e <;> cases z
    · rw [s] at z
      have : e = e' := by cases e <;> cases e' <;> first | rfl | cases z
      rw [← this]; exact q
theorem side_inv {m : Nat} {x : BG} (h : Im m x) : side m x⁻¹ = -side m x := by
  rcases h.tri with rfl | ⟨e, q⟩
  · rw [inv_one, side_one]; rfl
  · rw [side_sn q, side_sn q.inv]
    cases e <;> rfl
theorem side_mul {m : Nat} {x y : BG} (hx : Im m x) (hy : Im m y) {e : Bool} (h : side m x = sg e ∨ x = 1) (k : side m y = sg e ∨ y = 1) (n : x ≠ 1 ∨ y ≠ 1) : side m (x * y) = sg e := by
  rcases h with h | rfl
  · rcases k with k | rfl
    · exact side_sn ((((sn_side hx).2 e).mp h).mul (((sn_side hy).2 e).mp k))
    · rw [mul_one]; exact h
  · rcases k with k | rfl
    · rw [one_mul]; exact k
    · rcases n with n | n <;> exact absurd rfl n
end GA
/-! the laws' curves and point 17's -/
namespace DL
open PySem PySem.Spec PyProof.Rows L2
theorem upI_pp (x : Int) : upI x = CU.pp x := rfl
theorem dnI_pp (x : Int) : dnI x = x - CU.pp x := by
  unfold dnI CU.pp
  split <;> omega
def toCv (ps : List (Int × Int)) : CU.Cv := fun i => ps.getD i (0, 0)
theorem toCv_lstp {w : Int} {ps : List (Int × Int)} (h0 : w ≠ 0) (h : w.natAbs < ps.length) : toCv (lstp w ps) = CU.car w (toCv ps) := by
  funext i
  unfold toCv lstp CU.car
  dsimp only
  have l2 : w.natAbs - 1 < ps.length := by omega
  by_cases q : 0 < w
  · rw [if_pos q, if_pos q, getD_set (by rw [List.length_set]; exact h), getD_set l2]
    unfold CU.up
    simp only [upI_pp, dnI_pp, CU.q1, CU.q2, CU.q3, CU.q4]
  · rw [if_neg q, if_neg q, getD_set (by rw [List.length_set]; exact h), getD_set l2]
    unfold CU.dn
    simp only [upI_pp, dnI_pp, CU.m1, CU.m2, CU.m3, CU.m4]
theorem toCv_carP : ∀ {ws : List Int} {ps : List (Int × Int)}, (∀ w ∈ ws, w ≠ 0 ∧ w.natAbs < ps.length) → toCv (carP ws ps) = CU.carW ws (toCv ps)
  | [], ps, _ => rfl
  | w :: ws, ps, h => by
    obtain ⟨h0, h1⟩ := h w List.mem_cons_self
    show toCv (carP ws (lstp w ps)) = CU.carW ws (CU.car w (toCv ps))
    rw [← toCv_lstp h0 h1]
    exact toCv_carP fun x hx => by rw [lstp_len]; exact h x (List.mem_cons_of_mem _ hx)
/-- words that are alike carry lists of pairs alike -/
theorem carP_alike {us vs : List Int} {ps : List (Int × Int)} (hu : ∀ w ∈ us, w ≠ 0 ∧ w.natAbs < ps.length) (hv : ∀ w ∈ vs, w ≠ 0 ∧ w.natAbs < ps.length) (h : CU.Alike us vs) : carP us ps = carP vs ps := by
  have e : toCv (carP us ps) = toCv (carP vs ps) := by rw [toCv_carP hu, toCv_carP hv, CU.carW_alike h]
  have l1 := carP_len us ps
  have l2 := carP_len vs ps
  apply List.ext_getElem
  · rw [l1, l2]
  · intro i h1 h2
    have q := congrFun e i
    unfold toCv at q
    simpa [List.getD, List.getElem?_eq_getElem h1, List.getElem?_eq_getElem h2] using q
theorem curve_alike {n : Nat} {us vs : List Int} (hu : ∀ w ∈ us, w ≠ 0 ∧ w.natAbs < n) (hv : ∀ w ∈ vs, w ≠ 0 ∧ w.natAbs < n) (h : CU.Alike us vs) : curveL n us = curveL n vs := by
  have hl : (plainP n).length = n := by unfold plainP; rw [List.length_replicate]
  unfold curveL
  rw [carP_alike (by rw [hl]; exact hu) (by rw [hl]; exact hv) h]
end DL
/-! curves of mirrored and of shifted words, and of words behind the same word -/
namespace DL
open PySem PySem.Spec PyProof.Rows L2
def mirP (ps : List (Int × Int)) : List (Int × Int) := ps.map fun p => (-p.1, p.2)
theorem mirP_len (ps : List (Int × Int)) : (mirP ps).length = ps.length := by unfold mirP; rw [List.length_map]
theorem mirP_at {ps : List (Int × Int)} {i : Nat} (h : i < ps.length) : (mirP ps).getD i (0, 0) = (-(ps.getD i (0, 0)).1, (ps.getD i (0, 0)).2) := by
  unfold mirP
  rw [List.getD_eq_getElem?_getD, List.getElem?_map, List.getD_eq_getElem?_getD, List.getElem?_eq_getElem h]
  rfl
theorem mirP_set {ps : List (Int × Int)} {i : Nat} {v : Int × Int} : mirP (ps.set i v) = (mirP ps).set i (-v.1, v.2) := by unfold mirP; rw [List.map_set]
theorem lstp_mir {w : Int} {ps : List (Int × Int)} (h0 : w ≠ 0) (h : w.natAbs < ps.length) : lstp (-w) (mirP ps) = mirP (lstp w ps) := by
  have l2 : w.natAbs - 1 < ps.length := by omega
  unfold lstp
  dsimp only
  rw [Int.natAbs_neg, mirP_at h, mirP_at l2]
  dsimp only
  generalize ps.getD (w.natAbs - 1) (0, 0) = p
  generalize ps.getD w.natAbs (0, 0) = q
  obtain ⟨a, b⟩ := p
  obtain ⟨c, d⟩ := q
  dsimp only
  by_cases hp : 0 < w
  · rw [if_pos hp, if_neg (by omega), mirP_set, mirP_set]
    dsimp only
    congr 2 <;> (try congr 1) <;> (try simp only [Prod.mk.injEq]) <;> (try simp only [upI, dnI]) <;> omega
  · rw [if_neg hp, if_pos (by omega), mirP_set, mirP_set]
    dsimp only
    congr 2 <;> (try congr 1) <;> (try simp only [Prod.mk.injEq]) <;> (try simp only [upI, dnI]) <;> omega
theorem carP_mir : ∀ {ws : List Int} {ps : List (Int × Int)}, (∀ w ∈ ws, w ≠ 0 ∧ w.natAbs < ps.length) → carP (ws.map fun w => -w) (mirP ps) = mirP (carP ws ps)
  | [], ps, _ => rfl
  | w :: ws, ps, h => by
    obtain ⟨h0, h1⟩ := h w List.mem_cons_self
    show carP (ws.map fun w => -w) (lstp (-w) (mirP ps)) = mirP (carP ws (lstp w ps))
    rw [lstp_mir h0 h1]
    exact carP_mir fun x hx => by rw [lstp_len]; exact h x (List.mem_cons_of_mem _ hx)
theorem leanP_mir : ∀ ps : List (Int × Int), leanP (mirP ps) = -leanP ps
  | [] => rfl
  | p :: ps => by
    have ih := leanP_mir ps
    show (if -p.1 = 0 then leanP (mirP ps) else if 0 < -p.1 then 1 else -1) = -(if p.1 = 0 then leanP ps else if 0 < p.1 then 1 else -1)
    by_cases h : p.1 = 0
    · rw [if_pos h, if_pos (by omega), ih]
    · rw [if_neg h, if_neg (by omega)]
      by_cases h2 : 0 < p.1
      · rw [if_pos h2, if_neg (by omega)]
      · rw [if_neg h2, if_pos (by omega)]
        rfl
theorem mirP_plain (n : Nat) : mirP (plainP n) = plainP n := by
  unfold mirP plainP
  rw [List.map_replicate]
  rfl
/-- with mirrored words the lean is the other one -/
theorem lean_mirrored {n : Nat} {ws : List Int} (h : ∀ w ∈ ws, w ≠ 0 ∧ w.natAbs < n) : leanP (carP (ws.map fun w => -w) (plainP n)) = -leanP (carP ws (plainP n)) := by
  have q := carP_mir (ws := ws) (ps := plainP n) (by unfold plainP; rw [List.length_replicate]; exact h)
  rw [mirP_plain] at q
  rw [q, leanP_mir]
def shI (w : Int) : Int := if 0 < w then w + 1 else w - 1
theorem lstp_shift {w : Int} {p : Int × Int} {ps : List (Int × Int)} (h0 : w ≠ 0) : lstp (shI w) (p :: ps) = p :: lstp w ps := by
  have e1 : (shI w).natAbs = w.natAbs + 1 := by unfold shI; split <;> omega
  have e2 : (shI w).natAbs - 1 = w.natAbs - 1 + 1 := by omega
  have e3 : (0 < shI w) = (0 < w) := by unfold shI; rw [eq_iff_iff]; split <;> omega
  unfold lstp
  rw [e2, e1]
  simp only [e3, List.getD_cons_succ, List.set_cons_succ]
  split <;> rfl
theorem carP_shift {p : Int × Int} : ∀ {ws : List Int} {ps : List (Int × Int)}, (∀ w ∈ ws, w ≠ 0) → carP (ws.map shI) (p :: ps) = p :: carP ws ps
  | [], ps, _ => rfl
  | w :: ws, ps, h => by
    show carP (ws.map shI) (lstp (shI w) (p :: ps)) = p :: carP ws (lstp w ps)
    rw [lstp_shift (h w List.mem_cons_self)]
    exact carP_shift fun x hx => h x (List.mem_cons_of_mem _ hx)
/-- a shifted word leans as the word -/
theorem lean_shifted {n : Nat} {ws : List Int} (h : ∀ w ∈ ws, w ≠ 0) : leanP (carP (ws.map shI) (plainP (n + 1))) = leanP (carP ws (plainP n)) := by
  have e : plainP (n + 1) = (0, 1) :: plainP n := rfl
  rw [e, carP_shift h]
  rfl
/-! ### the undone word goes back -/
theorem alike_trans {u v w : List Int} (h : CU.Alike u v) (h2 : CU.Alike v w) : CU.Alike u w := by
  induction h with
  | refl u => exact h2
  | step m r ih => exact .step m (ih h2)
theorem alike_ctx {u v : List Int} (x y : List Int) (h : CU.Alike u v) : CU.Alike (x ++ u ++ y) (x ++ v ++ y) := by
  induction h with
  | refl u => exact .refl _
  | @step u o n v w m r ih =>
    have e1 : x ++ (u ++ o ++ v) ++ y = (x ++ u) ++ o ++ (v ++ y) := by simp
    have e2 : x ++ (u ++ n ++ v) ++ y = (x ++ u) ++ n ++ (v ++ y) := by simp
    rw [e2] at ih
    rw [e1]
    exact .step m ih
theorem alike_undone : ∀ {ws : List Int}, (∀ w ∈ ws, w ≠ 0) → CU.Alike (undoneL ws ++ ws) []
  | [], _ => .refl _
  | w :: ws, h => by
    have h0 := h w List.mem_cons_self
    have e : undoneL (w :: ws) ++ w :: ws = undoneL ws ++ [-w, w] ++ ws := by
      unfold undoneL
      simp
    rw [e]
    have m : CU.Mv [-w, w] [] := by
      have q := CU.Mv.out (-w) (by omega)
      rwa [Int.neg_neg] at q
    refine .step m ?_
    rw [List.append_nil]
    exact alike_undone fun x hx => h x (List.mem_cons_of_mem _ hx)
theorem undoneL_app (u v : List Int) : undoneL (u ++ v) = undoneL v ++ undoneL u := by
  unfold undoneL
  rw [List.reverse_append, List.map_append]
/-- the same word in front of two words: what parts them is alike -/
theorem alike_front {x u v : List Int} (h : ∀ w ∈ x, w ≠ 0) : CU.Alike (undoneL (x ++ u) ++ (x ++ v)) (undoneL u ++ v) := by
  have q := alike_ctx (undoneL u) v (alike_undone h)
  have e : undoneL (x ++ u) ++ (x ++ v) = undoneL u ++ (undoneL x ++ x) ++ v := by
    rw [undoneL_app]
    simp
  rw [e]
  rw [List.append_nil] at q
  exact q
end DL
/-! words of integers, their plaits, and the lean of their curves -/
namespace DL
open PySem PySem.Spec PyProof.Rows L2
def lt1 (w : Int) : GA.Lt := (w.natAbs - 1, decide (0 < w))
def ltW (ws : List Int) : List GA.Lt := ws.map lt1
/-- letters of n strands -/
def Wd (n : Nat) (ws : List Int) : Prop := ∀ w ∈ ws, w ≠ 0 ∧ w.natAbs < n
theorem li_lt {w : Int} (h : w ≠ 0) : GA.li (lt1 w) = w := by
  unfold GA.li lt1
  by_cases q : 0 < w
  · simp only [q, decide_true, if_true]; omega
  · simp only [q, decide_false, Bool.false_eq_true, if_false]; omega
theorem li_ltW {n : Nat} : ∀ {ws : List Int}, Wd n ws → (ltW ws).map GA.li = ws
  | [], _ => rfl
  | w :: ws, h => by
    show GA.li (lt1 w) :: (ltW ws).map GA.li = _
    rw [li_lt (h w List.mem_cons_self).1, li_ltW (n := n) fun x hx => h x (List.mem_cons_of_mem _ hx)]
theorem ltW_lt {m : Nat} {ws : List Int} (h : Wd (m + 1) ws) : ∀ c ∈ ltW ws, c.1 < m := fun c hc => by
  obtain ⟨w, hw, rfl⟩ := List.mem_map.mp hc
  have := h w hw
  show w.natAbs - 1 < m
  omega
theorem Wd.app {n : Nat} {us vs : List Int} (h : Wd n us) (k : Wd n vs) : Wd n (us ++ vs) := fun w hw => by
  rcases List.mem_append.mp hw with z | z
  · exact h w z
  · exact k w z
theorem Wd.undone {n : Nat} {us : List Int} (h : Wd n us) : Wd n (undoneL us) := fun w hw => by
  unfold undoneL at hw
  obtain ⟨x, hx, rfl⟩ := List.mem_map.mp hw
  have := h x (List.mem_reverse.mp hx)
  omega
/-- the plait of a word -/
def gz (ws : List Int) : GA.BG := GA.gw (ltW ws)
theorem gz_app (us vs : List Int) : gz (us ++ vs) = gz us * gz vs := by
  unfold gz ltW
  rw [List.map_append]
  rfl
theorem gz_nil : gz [] = 1 := rfl
theorem gz_undone {n : Nat} {us : List Int} (h : Wd n us) : gz (undoneL us) = (gz us)⁻¹ := by
  show GA.gw (ltW (undoneL us)) = GA.gw (GA.iv (ltW us))
  congr 1
  unfold undoneL ltW GA.iv
  rw [List.map_map, List.map_map, ← List.map_reverse]
  refine List.map_congr_left fun w hw => ?_
  have := (h w (List.mem_reverse.mp hw)).1
  show lt1 (-w) = GA.fl (lt1 w)
  unfold lt1 GA.fl
  rw [Int.natAbs_neg]
  have : decide (0 < -w) = !decide (0 < w) := by
    by_cases q : 0 < w
    · simp [q]; omega
    · simp [q]; omega
  rw [this]
theorem gz_im {m : Nat} {us : List Int} (h : Wd (m + 1) us) : GA.Im m (gz us) := ⟨ltW us, ltW_lt h, rfl⟩
theorem leanP_at {s : Int} (hs : s = 1 ∨ s = -1) : ∀ {K : Nat} {ps : List (Int × Int)}, (∀ i, i < K → (ps.getD i (0, 0)).1 = 0) → 0 < s * (ps.getD K (0, 0)).1 → leanP ps = s
  | K, [], _, h => by simp at h
  | 0, p :: ps, _, h => by
    have h' : 0 < s * p.1 := h
    show (if p.1 = 0 then leanP ps else if 0 < p.1 then 1 else -1) = s
    rcases hs with rfl | rfl
    · rw [if_neg (by omega), if_pos (by omega)]
    · rw [if_neg (by omega), if_neg (by omega)]
  | K + 1, p :: ps, h0, h => by
    have hp : p.1 = 0 := h0 0 (by omega)
    show (if p.1 = 0 then leanP ps else if 0 < p.1 then 1 else -1) = s
    rw [if_pos hp]
    exact leanP_at hs (K := K) (fun i hi => h0 (i + 1) (by omega)) h
theorem leanP_zero : ∀ {ps : List (Int × Int)}, (∀ i, (ps.getD i (0, 0)).1 = 0) → leanP ps = 0
  | [], _ => rfl
  | p :: ps, h => by
    have hp : p.1 = 0 := h 0
    show (if p.1 = 0 then leanP ps else if 0 < p.1 then 1 else -1) = 0
    rw [if_pos hp]
    exact leanP_zero fun i => h (i + 1)
theorem plain_getD (n i : Nat) : (plainP n).getD i (0, 0) = if i < n then (0, 1) else (0, 0) := by
  unfold plainP
  by_cases h : i < n
  · rw [if_pos h, List.getD_eq_getElem?_getD, List.getElem?_replicate, if_pos h]; rfl
  · rw [if_neg h, List.getD_eq_getElem?_getD, List.getElem?_replicate, if_neg h]; rfl
theorem car_low {K : Nat} : ∀ {U : List GA.Lt} {c : CU.Cv}, (∀ x ∈ U, K ≤ x.1) → ∀ i, i < K → CU.carW (U.map GA.li) c i = c i
  | [], c, _, i, _ => rfl
  | x :: U, c, h, i, hi => by
    show CU.carW (U.map GA.li) (CU.car (GA.li x) c) i = c i
    rw [car_low (fun y hy => h y (List.mem_cons_of_mem _ hy)) i hi]
    have := h x List.mem_cons_self
    exact CU.car_o (by rw [GA.li_abs]; omega) (by rw [GA.li_abs]; omega)
/-- the lean of the curve of a word, and the side of its plait -/
theorem lean_side {m : Nat} {ws : List Int} (h : Wd (m + 1) ws) : leanP (carP ws (plainP (m + 1))) = GA.side m (gz ws) := by
  have hl : (plainP (m + 1)).length = m + 1 := by unfold plainP; rw [List.length_replicate]
  have e0 : toCv (carP ws (plainP (m + 1))) = CU.carW ((ltW ws).map GA.li) (toCv (plainP (m + 1))) := by
    rw [toCv_carP (by rw [hl]; exact h), li_ltW h]
  have p0 : ∀ i, (toCv (plainP (m + 1)) i).1 = 0 := fun i => by
    show ((plainP (m + 1)).getD i (0, 0)).1 = 0
    rw [plain_getD]
    split <;> rfl
  rcases GA.trichotomy (ltW_lt h) with q | ⟨e, q⟩
  · have q' : gz ws = 1 := q
    rw [q', GA.side_one]
    refine leanP_zero fun i => ?_
    have a := GA.al_car (GA.gw_exact (v := []) q) (toCv (plainP (m + 1)))
    have := congrFun (e0.trans a) i
    show (toCv (carP ws (plainP (m + 1))) i).1 = 0
    rw [this]
    exact p0 i
  · have q' : GA.Sn m (gz ws) e := q
    rw [GA.side_sn q']
    obtain ⟨K, U, e1, h1, h2, h3⟩ := q'
    have a := GA.al_car (GA.gw_exact e1) (toCv (plainP (m + 1)))
    have ee := e0.trans a
    have hK : K < m := (h1 _ h3).1
    refine leanP_at (K := K) (by cases e; exact .inr rfl; exact .inl rfl) (fun i hi => ?_) ?_
    · have := congrFun ee i
      show (toCv (carP ws (plainP (m + 1))) i).1 = 0
      rw [this, car_low (fun x hx => (h1 x hx).2) i hi]
      exact p0 i
    · have := congrFun ee K
      show 0 < GA.sg e * (toCv (carP ws (plainP (m + 1))) K).1
      rw [this]
      refine GA.acyc_car h2 (.inl ?_) (.inl h3)
      show (plainP (m + 1)).getD K (0, 0) = (0, 1)
      rw [plain_getD, if_pos (by omega)]
/-- point 8's comparison: the first is less: -1 -/
noncomputable def cmpG (m : Nat) (us vs : List Int) : Int := -GA.side m ((gz us)⁻¹ * gz vs)
theorem cmp_lean {m : Nat} {us vs : List Int} (h : Wd (m + 1) us) (k : Wd (m + 1) vs) : -leanP (carP (undoneL us ++ vs) (plainP (m + 1))) = cmpG m us vs := by
  rw [lean_side (h.undone.app k), gz_app, gz_undone h]
  rfl
theorem cmp_swap {m : Nat} {us vs : List Int} (h : Wd (m + 1) us) (k : Wd (m + 1) vs) : cmpG m vs us = -cmpG m us vs := by
  unfold cmpG
  have e : (gz vs)⁻¹ * gz us = ((gz us)⁻¹ * gz vs)⁻¹ := by rw [GA.inv_prod, GA.inv_inv]
  rw [e, GA.side_inv ((gz_im h).inv.mul (gz_im k))]
theorem cmp_self {m : Nat} (us : List Int) : cmpG m us us = 0 := by
  unfold cmpG
  rw [GA.inv_mul, GA.side_one]
  rfl
theorem cmp_front {m : Nat} (xs us vs : List Int) : cmpG m (xs ++ us) (xs ++ vs) = cmpG m us vs := by
  unfold cmpG
  rw [gz_app, gz_app, GA.inv_prod, GA.mul_assoc, GA.inv_mul_l]
theorem cmp_vals {m : Nat} {us vs : List Int} (h : Wd (m + 1) us) (k : Wd (m + 1) vs) : cmpG m us vs = 0 ∨ cmpG m us vs = 1 ∨ cmpG m us vs = -1 := by
  unfold cmpG
  rcases ((gz_im h).inv.mul (gz_im k)).tri with q | ⟨e, q⟩
  · rw [q, GA.side_one]; exact .inl rfl
  · rw [GA.side_sn q]
    cases e
    · exact .inr (.inl rfl)
    · exact .inr (.inr rfl)
/-- less or alike, one behind the other -/
theorem cmp_trans {m : Nat} {us vs xs : List Int} (hu : Wd (m + 1) us) (hv : Wd (m + 1) vs) (hx : Wd (m + 1) xs) (h : cmpG m us vs ≤ 0) (k : cmpG m vs xs ≤ 0) : cmpG m us xs ≤ 0 ∧ (cmpG m us xs = 0 → cmpG m us vs = 0 ∧ cmpG m vs xs = 0) := by
  have i1 := (gz_im hu).inv.mul (gz_im hv)
  have i2 := (gz_im hv).inv.mul (gz_im hx)
  have e : (gz us)⁻¹ * gz xs = (gz us)⁻¹ * gz vs * ((gz vs)⁻¹ * gz xs) := by rw [GA.mul_assoc, GA.mul_inv_l]
  unfold cmpG at h k ⊢
  have s1 := GA.sn_side i1
  have s2 := GA.sn_side i2
  have t : ∀ {x : GA.BG}, GA.Im m x → -GA.side m x ≤ 0 → GA.side m x = GA.sg true ∨ x = 1 := fun {x} hx h => by
    rcases hx.tri with q | ⟨e, q⟩
    · exact .inr q
    · rw [GA.side_sn q] at h ⊢
      cases e
      · exact absurd h (by decide)
      · exact .inl rfl
  rw [e]
  by_cases n : (gz us)⁻¹ * gz vs ≠ 1 ∨ (gz vs)⁻¹ * gz xs ≠ 1
  · have := GA.side_mul i1 i2 (e := true) (t i1 h) (t i2 k) n
    rw [this]
    exact ⟨by decide, fun z => absurd z (by decide)⟩
  · have a : (gz us)⁻¹ * gz vs = 1 := Classical.byContradiction fun z => n (.inl z)
    have b : (gz vs)⁻¹ * gz xs = 1 := Classical.byContradiction fun z => n (.inr z)
    rw [a, b, GA.one_mul, GA.side_one]
    exact ⟨by decide, fun _ => ⟨rfl, rfl⟩⟩
theorem carP_app (us vs : List Int) (ps : List (Int × Int)) : carP (us ++ vs) ps = carP vs (carP us ps) := List.foldl_append
end DL
/-! the program's comparison; mirrored, turned back, shifted words; the least plait above the plain one -/
namespace DL
open PySem PySem.Spec PyProof.Rows L2
def P_undone : FS := (gRet (fC1 gTuple (aCons (fLc (itR (f1 gRev (fVar 0))) 1 cYes (f1 gNeg (fVar 1)) [1]) aNil)))
def P_mirrored : FS := (gRet (fC1 gTuple (aCons (fLc (itR (fVar 0)) 1 cYes (f1 gNeg (fVar 1)) [1]) aNil)))
def P_turned : FS := (gRet (f1 gRev (fVar 0)))
def P_shifted : FS := (gRet (fC1 gTuple (aCons (fLc (itR (fVar 0)) 1 cYes (fIf (fB (f2 gGt (fVar 1) (fC (.int 0)))) (f2 gAdd (fVar 1) (fC (.int 1))) (f2 gMinus (fVar 1) (fC (.int 1)))) [1]) aNil)))
def P_compare (F_lean : FD) (F_carried : FD) (F_curve_of : FD) (F_undone : FD) : FS := (gRet (f1 gNeg (fCall F_lean (aCons (fCall F_carried (aCons (fCall F_curve_of (aCons (fVar 0) (aCons (fCall F_undone (aCons (fVar 1) aNil)) aNil))) (aCons (fVar 2) aNil))) aNil))))
theorem p_undone {ws : List Int} (hz : ws.length ≤ 100000) : runD 2 P_undone [wd ws] = some (wd (undoneL ws)) := by
  simp -implicitDefEqProofs [runD_eq, P_undone, hz, -List.map_map, -List.map_reverse, ← List.map_reverse]
  rw [lcD_all (e := PyData.int) (e' := PyData.int) (fun w => -w)]
  · simp -implicitDefEqProofs [-List.map_map, -List.map_reverse, undoneL]
  · intro x hx; simp
  · intro x hx; simp
theorem p_mirrored {ws : List Int} (hz : ws.length ≤ 100000) : runD 2 P_mirrored [wd ws] = some (wd (ws.map fun w => -w)) := by
  simp -implicitDefEqProofs [runD_eq, P_mirrored, hz, -List.map_map]
  rw [lcD_all (e := PyData.int) (e' := PyData.int) (fun w => -w)]
  · simp -implicitDefEqProofs [-List.map_map]
  · intro x hx; simp
  · intro x hx; simp
theorem p_turned {ws : List Int} : runD 1 P_turned [wd ws] = some (wd ws.reverse) := by
  simp -implicitDefEqProofs [runD_eq, P_turned]
theorem p_shifted {ws : List Int} (hz : ws.length ≤ 100000) : runD 2 P_shifted [wd ws] = some (wd (ws.map shI)) := by
  simp -implicitDefEqProofs [runD_eq, P_shifted, hz, -List.map_map]
  rw [lcD_all (e := PyData.int) (e' := PyData.int) shI]
  · simp -implicitDefEqProofs [-List.map_map]
  · intro x hx; simp
  · intro x hx
    by_cases hx0 : 0 < x <;> simp -implicitDefEqProofs [shI, hx0]
theorem plainP_len (n : Nat) : (plainP n).length = n := by unfold plainP; rw [List.length_replicate]
theorem undoneL_len (ws : List Int) : (undoneL ws).length = ws.length := by unfold undoneL; rw [List.length_map, List.length_reverse]
theorem p_compare {FL FC FV FU : FD} {m : Nat} {us vs : List Int} (hm : 1 ≤ m) (hm2 : m + 1 ≤ 1000) (lu : us.length ≤ 100000) (lv : vs.length ≤ 100000) (hu : Wd (m + 1) us) (hv : Wd (m + 1) vs)
    {s : Int} (h1 : FU [wd us] = some (wd (undoneL us))) (h2 : FV [.int s, wd (undoneL us)] = some (wd (curveL (m + 1) (undoneL us))))
    (h3 : FC [wd (flatP (carP (undoneL us) (plainP (m + 1)))), wd vs] = some (wd (flatP (carP vs (carP (undoneL us) (plainP (m + 1)))))))
    (h4 : ∀ ps, FL [wd (flatP ps)] = some (.int (leanP ps))) : runD 3 (P_compare FL FC FV FU) [.int s, wd us, wd vs] = some (.int (cmpG m us vs)) := by
  have h3' : FC [wd (curveL (m + 1) (undoneL us)), wd vs] = some (wd (flatP (carP vs (carP (undoneL us) (plainP (m + 1)))))) := h3
  rw [← cmp_lean hu hv, carP_app]
  simp -implicitDefEqProofs [runD_eq, P_compare, h1, h2, h3', h4, -List.map_map]
/-! ### words of one letter more in front -/
theorem Wd.mono {n k : Nat} {ws : List Int} (h : Wd n ws) (hk : n ≤ k) : Wd k ws := fun w hw => by have := h w hw; omega
theorem Wd.take {n k : Nat} {ws : List Int} (h : Wd n ws) : Wd n (ws.take k) := fun w hw => h w (List.mem_of_mem_take hw)
theorem Wd.drop {n k : Nat} {ws : List Int} (h : Wd n ws) : Wd n (ws.drop k) := fun w hw => h w (List.mem_of_mem_drop hw)
theorem Wd.nil {n : Nat} : Wd n [] := fun w h => (nomatch h)
theorem Wd.of {s : Int} {ws : List Int} (h : ∀ w ∈ ws, w ≠ 0 ∧ -s < w ∧ w < s) : Wd s.toNat ws := fun w hw => by have := h w hw; omega
theorem Wd.neg {n : Nat} {ws : List Int} (h : Wd n ws) : Wd n (ws.map fun w => -w) := fun w hw => by
  obtain ⟨x, hx, rfl⟩ := List.mem_map.mp hw
  have := h x hx
  omega
theorem Wd.rev {n : Nat} {ws : List Int} (h : Wd n ws) : Wd n ws.reverse := fun w hw => h w (List.mem_reverse.mp hw)
theorem Wd.shift {n : Nat} {ws : List Int} (h : Wd n ws) : Wd (n + 1) (ws.map shI) := fun w hw => by
  obtain ⟨x, hx, rfl⟩ := List.mem_map.mp hw
  have := h x hx
  unfold shI
  split <;> omega
theorem undone_neg (ws : List Int) : undoneL (ws.map fun w => -w) = (undoneL ws).map fun w => -w := by
  unfold undoneL
  rw [← List.map_reverse]
theorem undone_shift {n : Nat} {ws : List Int} (h : Wd n ws) : undoneL (ws.map shI) = (undoneL ws).map shI := by
  unfold undoneL
  rw [← List.map_reverse, List.map_map, List.map_map]
  refine List.map_congr_left fun w hw => ?_
  have := (h w (List.mem_reverse.mp hw)).1
  show -(shI w) = shI (-w)
  unfold shI
  split <;> split <;> omega
theorem cmp_mirror {m : Nat} {us vs : List Int} (hu : Wd (m + 1) us) (hv : Wd (m + 1) vs) : cmpG m (us.map fun w => -w) (vs.map fun w => -w) = -cmpG m us vs := by
  rw [← cmp_lean hu.neg hv.neg, ← cmp_lean hu hv, undone_neg, ← List.map_append, lean_mirrored (hu.undone.app hv)]
theorem cmp_shift {m : Nat} {us vs : List Int} (hu : Wd (m + 1) us) (hv : Wd (m + 1) vs) : cmpG (m + 1) (us.map shI) (vs.map shI) = cmpG m us vs := by
  rw [← cmp_lean hu.shift hv.shift, ← cmp_lean hu hv, undone_shift hu, ← List.map_append, lean_shifted fun w hw => ((hu.undone.app hv) w hw).1]
end DL
namespace GA
theorem al_rev {u v : List Lt} (h : Al u v) : Al u.reverse v.reverse := by
  have go : ∀ {a b : List Lt}, M1 a b → Al a b := fun {a b} h => by have := Al.mv [] [] h; simpa using this
  induction h with
  | refl u => exact .refl _
  | symm _ ih => exact ih.symm
  | trans _ _ i1 i2 => exact i1.trans i2
  | @mv x y o n h =>
    have q : Al o.reverse n.reverse := by
      cases h with
      | out i s =>
        have := go (M1.out i (!s))
        simpa using this
      | far i j s t f => exact go (M1.far j i t s f.symm)
      | turn i j s f => exact go (M1.turn i j s f)
    have := Al.ctx y.reverse x.reverse q
    simpa [List.append_assoc] using this
theorem Sn.rev {m : Nat} {u : List Lt} {e : Bool} (h : Sn m (gw u) e) : Sn m (gw u.reverse) e := by
  obtain ⟨K, U, e1, h1, h2, h3⟩ := h
  exact ⟨K, U.reverse, gw_sound (al_rev (gw_exact e1)), fun c hc => h1 c (List.mem_reverse.mp hc), fun c hc => h2 c (List.mem_reverse.mp hc), List.mem_reverse.mpr h3⟩
theorem side_rev {m : Nat} {u : List Lt} (h : ∀ c ∈ u, c.1 < m) : side m (gw u.reverse) = side m (gw u) := by
  rcases trichotomy h with q | ⟨e, q⟩
  · have a := al_rev (gw_exact (v := []) q)
    have : gw u.reverse = 1 := gw_sound a
    rw [this, q]
  · rw [side_sn q, side_sn q.rev]
/-- nothing lies between the plain plait and the greatest letter -/
theorem Sn.least {m : Nat} {x : BG} (h : Sn (m + 1) x true) : 0 ≤ side (m + 1) ((g m)⁻¹ * x) := by
  obtain ⟨K, U, rfl, h1, h2, h3⟩ := h
  have hK := (h1 _ h3).1
  by_cases q : K < m
  · have : Sn (m + 1) ((g m)⁻¹ * gw U) true := ⟨K, (m, false) :: U, rfl, fun c hc => by
      rcases List.mem_cons.mp hc with rfl | hc
      · exact ⟨by dsimp; omega, by dsimp; omega⟩
      · exact h1 c hc, fun c hc => by
      rcases List.mem_cons.mp hc with rfl | hc
      · refine ⟨by dsimp; omega, fun z => ?_⟩
        injection z with z
        omega
      · exact h2 c hc, List.mem_cons_of_mem _ h3⟩
    rw [side_sn this]
    decide
  · have eK : K = m := by dsimp at hK; omega
    subst eK
    have all : ∀ c ∈ U, c = (K, true) := fun c hc => by
      have a := h1 c hc
      have b := (h2 c hc).2
      obtain ⟨i, s⟩ := c
      dsimp at a
      have : i = K := by omega
      subst this
      cases s
      · exact absurd rfl b
      · rfl
    cases U with
    | nil => cases h3
    | cons c U =>
      have hc := all c List.mem_cons_self
      subst hc
      rw [gw_cons]
      show 0 ≤ side (K + 1) ((g K)⁻¹ * (g K * gw U))
      rw [inv_mul_l]
      cases U with
      | nil => rw [gw_nil, side_one]; decide
      | cons c U =>
        have hc := all c (by simp)
        subst hc
        have : Sn (K + 1) (gw ((K, true) :: U)) true := ⟨K, (K, true) :: U, rfl, fun c hc => h1 c (List.mem_cons_of_mem _ hc), fun c hc => h2 c (List.mem_cons_of_mem _ hc), List.mem_cons_self⟩
        rw [side_sn this]
        decide
theorem side_gen {m i : Nat} (h : i < m) : side m (g i) = 1 := by
  have h1 : ∀ c ∈ [(i, true)], c = (i, true) := fun c hc => by simpa using hc
  have : Sn m (g i) true := by
    refine ⟨i, [(i, true)], rfl, fun c hc => ?_, fun c hc => ?_, List.mem_cons_self⟩
    · rw [h1 c hc]; exact ⟨h, Nat.le_refl _⟩
    · rw [h1 c hc]
      refine ⟨by dsimp; omega, fun z => ?_⟩
      injection z with _ z
      cases z
  exact side_sn this
end GA
namespace DL
open PySem PySem.Spec PyProof.Rows L2
theorem gz_top (m : Nat) : gz [((m + 1 : Nat) : Int)] = GA.g m := by
  show GA.gw [lt1 ((m + 1 : Nat) : Int)] = GA.gw [(m, true)]
  congr 2
  unfold lt1
  have : (0 : Int) < ((m + 1 : Nat) : Int) := by omega
  rw [decide_eq_true this]
  rfl
theorem cmp_empty {m : Nat} {us : List Int} (hu : Wd (m + 1) us) : cmpG m us [] = GA.side m (gz us) := by
  unfold cmpG
  rw [gz_nil, GA.mul_one, GA.side_inv (gz_im hu)]
  omega
theorem cmp_top {m : Nat} : cmpG (m + 1) [] [((m + 1 : Nat) : Int)] = -1 := by
  unfold cmpG
  rw [gz_nil, gz_top, GA.inv_one, GA.one_mul, GA.side_gen (by omega)]
theorem cmp_turned {m : Nat} {us : List Int} (hu : Wd (m + 1) us) : cmpG m us.reverse [] = cmpG m us [] := by
  rw [cmp_empty hu, cmp_empty hu.rev]
  show GA.side m (GA.gw (ltW us.reverse)) = GA.side m (GA.gw (ltW us))
  unfold ltW
  rw [List.map_reverse]
  exact GA.side_rev (ltW_lt hu)
theorem side_pos {m : Nat} {x : GA.BG} (h : GA.Im m x) (k : 0 < GA.side m x) : GA.Sn m x true := by
  rcases h.tri with rfl | ⟨e, q⟩
  · rw [GA.side_one] at k; exact absurd k (by decide)
  · rw [GA.side_sn q] at k
    cases e
    · exact absurd k (by decide)
    · exact q
theorem cmp_least {m : Nat} {us vs : List Int} (hu : Wd (m + 2) us) (hv : Wd (m + 2) vs) (h : cmpG (m + 1) us vs < 0) : cmpG (m + 1) (us ++ [((m + 1 : Nat) : Int)]) vs ≤ 0 := by
  unfold cmpG at h ⊢
  have i := (gz_im hu).inv.mul (gz_im hv)
  have s := side_pos i (by omega)
  have := s.least
  rw [gz_app, gz_top, GA.inv_prod, GA.mul_assoc]
  omega
theorem cmp_least' {m : Nat} {us : List Int} (hu : Wd (m + 2) us) (h : 0 < cmpG (m + 1) us []) : 0 ≤ cmpG (m + 1) us [((m + 1 : Nat) : Int)] := by
  have ht : Wd (m + 2) [((m + 1 : Nat) : Int)] := fun w hw => by simp only [List.mem_singleton] at hw; subst hw; omega
  rw [cmp_swap ht hu]
  have h2 : cmpG (m + 1) [] us < 0 := by rw [cmp_swap hu .nil]; omega
  have := cmp_least .nil hu h2
  rw [List.nil_append] at this
  omega
def G_compared (F__law_lean : FD) (F__law_curve : FD) (F__law_undone : FD) : FS := (gRet (f2 gMinus (fC (.int 0)) (fCall F__law_lean (aCons (fCall F__law_curve (aCons (fVar 0) (aCons (f2 gAdd (fCall F__law_undone (aCons (fVar 1) aNil)) (fVar 2)) aNil))) aNil))))
theorem r_compared {FL FC FU : FD} {s c l : Int} {us vs : List Int} {cu : PyData} (lz : (undoneL us).length + vs.length ≤ 100000) (h1 : FU [wd us] = some (wd (undoneL us))) (h2 : FC [.int s, wd (undoneL us ++ vs)] = some cu) (h3 : FL [cu] = some (.int l)) (h4 : -l = c) : runD 3 (G_compared FL FC FU) [.int s, wd us, wd vs] = some (.int c) := by
  have e : (.tuple ((undoneL us).map PyData.int ++ vs.map PyData.int) : PyData) = wd (undoneL us ++ vs) := by rw [← List.map_append]
  simp -implicitDefEqProofs [runD_eq, G_compared, h1, lz, -List.map_map]
  rw [e, h2]
  simp -implicitDefEqProofs [h3, ← h4]
theorem gAdd_wd {us vs : List Int} : gAdd (wd us) (wd vs) = if small (us.length + vs.length) then some (.fz (wd (us ++ vs))) else none := by
  have e : wd (us ++ vs) = .tuple (us.map PyData.int ++ vs.map PyData.int) := by rw [← List.map_append]
  rw [e, gAdd_tuple, List.length_map, List.length_map]
end DL
/-! loops by a measure; rows of words in their order, and the place of a word in them -/
namespace DL
open PySem PySem.Spec PyProof.Rows L2
theorem whD_go {c : Rho → Option Bool} {body : FS} (P : Nat → Rho → Prop) (E : Rho → Prop) (h : ∀ n ρ, P n ρ → (c ρ = some false ∧ E ρ) ∨ (c ρ = some true ∧ ∃ ρ2 n', n' < n ∧ body ρ = some (.nx ρ2) ∧ P n' ρ2)) : ∀ (f n : Nat) (ρ : Rho), P n ρ → n < f → ∃ ρ', whD c body f ρ = some (.nx ρ') ∧ E ρ'
  | 0, n, ρ, _, hf => by omega
  | f + 1, n, ρ, hp, hf => by
    unfold whD
    rcases h n ρ hp with ⟨e1, e2⟩ | ⟨e1, ρ2, n', hn, e2, hp2⟩
    · exact ⟨ρ, by rw [e1]; rfl, e2⟩
    · obtain ⟨ρ', e3, e4⟩ := whD_go P E h f n' ρ2 hp2 (by omega)
      exact ⟨ρ', by rw [e1, Option.bind_some, if_pos rfl, e2, Option.bind_some]; exact e3, e4⟩
theorem whD_then {β : Type} {c : Rho → Option Bool} {body : FS} {k : Out → Option β} {r : Option β} {f n : Nat} {ρ : Rho} (P : Nat → Rho → Prop) (E : Rho → Prop) (h : ∀ n ρ, P n ρ → (c ρ = some false ∧ E ρ) ∨ (c ρ = some true ∧ ∃ ρ2 n', n' < n ∧ body ρ = some (.nx ρ2) ∧ P n' ρ2)) (h0 : P n ρ) (hf : n < f) (hk : ∀ ρ', E ρ' → k (.nx ρ') = r) : (whD c body f ρ).bind k = r := by
  obtain ⟨ρ', e, e2⟩ := whD_go P E h f n ρ h0 hf
  rw [e]
  exact hk ρ' e2
@[simp] theorem gWh_eq {m : Rho → Nat} {c : Rho → Option Bool} {body : FS} {ρ : Rho} : gWh m c body ρ = whD c body (m ρ) ρ := (rfl)
/-! ### the order -/
/-- ascending, alike words in any order -/
def Srt (m : Nat) (l : List (List Int)) : Prop := ∀ (i j : Nat) (a b : List Int), i < j → l[i]? = some a → l[j]? = some b → cmpG m a b ≤ 0
/-- P: how many of the ascending words are not greater than w -/
def Pos (m : Nat) (w : List Int) (l : List (List Int)) (P : Nat) : Prop := P ≤ l.length ∧ (∀ (j : Nat) (a : List Int), j < P → l[j]? = some a → 0 ≤ cmpG m w a) ∧ ∀ (j : Nat) (a : List Int), P ≤ j → l[j]? = some a → cmpG m w a < 0
theorem Pos.uniq {m : Nat} {w : List Int} {l : List (List Int)} {P P' : Nat} (h : Pos m w l P) (h' : Pos m w l P') : P = P' := by
  have key : ∀ {P P' : Nat}, Pos m w l P → Pos m w l P' → ¬ P < P' := fun {P P'} h h' q => by
    have hl : P < l.length := by have := h'.1; omega
    have a := h.2.2 P l[P] (Nat.le_refl _) (List.getElem?_eq_getElem hl)
    have b := h'.2.1 P l[P] q (List.getElem?_eq_getElem hl)
    omega
  have := key h h'
  have := key h' h
  omega
def insL (P : Nat) (w : List Int) (l : List (List Int)) : List (List Int) := l.take P ++ [w] ++ l.drop P
theorem insL_get {P i : Nat} {w : List Int} {l : List (List Int)} (hP : P ≤ l.length) : (insL P w l)[i]? = if i < P then l[i]? else if i = P then some w else l[i - 1]? := by
  unfold insL
  by_cases h : i < P
  · rw [if_pos h, List.append_assoc, List.getElem?_append_left (by rw [List.length_take]; omega), List.getElem?_take_of_lt h]
  · rw [if_neg h, List.append_assoc, List.getElem?_append_right (by rw [List.length_take]; omega), List.length_take, Nat.min_eq_left hP]
    by_cases e : i = P
    · rw [if_pos e, e, Nat.sub_self]; rfl
    · rw [if_neg e]
      have : i - P = (i - P - 1) + 1 := by omega
      rw [this]
      show (l.drop P)[i - P - 1]? = _
      rw [List.getElem?_drop]
      congr 1
      omega
theorem insL_len {P : Nat} {w : List Int} {l : List (List Int)} (hP : P ≤ l.length) : (insL P w l).length = l.length + 1 := by
  unfold insL
  simp only [List.length_append, List.length_take, List.length_drop, List.length_singleton]
  omega
theorem insL_mem {P : Nat} {w x : List Int} {l : List (List Int)} (h : x ∈ insL P w l) : x = w ∨ x ∈ l := by
  unfold insL at h
  rcases List.mem_append.mp h with h | h
  · rcases List.mem_append.mp h with h | h
    · exact .inr (List.mem_of_mem_take h)
    · exact .inl (by simpa using h)
  · exact .inr (List.mem_of_mem_drop h)
theorem Srt.ins {m P : Nat} {w : List Int} {l : List (List Int)} (hw : Wd (m + 1) w) (hl : ∀ x ∈ l, Wd (m + 1) x) (hs : Srt m l) (hp : Pos m w l P) : Srt m (insL P w l) := fun i j a b hij ha hb => by
  rw [insL_get hp.1] at ha hb
  by_cases h1 : i < P
  · rw [if_pos h1] at ha
    by_cases h2 : j < P
    · rw [if_pos h2] at hb
      exact hs i j a b hij ha hb
    · rw [if_neg h2] at hb
      by_cases h3 : j = P
      · rw [if_pos h3] at hb
        cases hb
        have := hp.2.1 i a h1 ha
        rw [cmp_swap hw (hl a (List.mem_of_getElem? ha))]
        omega
      · rw [if_neg h3] at hb
        exact hs i (j - 1) a b (by omega) ha hb
  · rw [if_neg h1] at ha
    by_cases h2 : i = P
    · rw [if_pos h2] at ha
      cases ha
      rw [if_neg (by omega), if_neg (by omega)] at hb
      have := hp.2.2 (j - 1) b (by omega) hb
      omega
    · rw [if_neg h2] at ha
      rw [if_neg (by omega), if_neg (by omega)] at hb
      exact hs (i - 1) (j - 1) a b (by omega) ha hb
/-- behind a greater word all are greater -/
theorem Srt.mono {m : Nat} {w a b : List Int} {l : List (List Int)} {i j : Nat} (hw : Wd (m + 1) w) (hl : ∀ x ∈ l, Wd (m + 1) x) (hs : Srt m l) (hij : i ≤ j) (ha : l[i]? = some a) (hb : l[j]? = some b) (h : cmpG m w a < 0) : cmpG m w b < 0 := by
  by_cases e : i = j
  · subst e
    rw [ha] at hb
    cases hb
    exact h
  · have t := cmp_trans hw (hl a (List.mem_of_getElem? ha)) (hl b (List.mem_of_getElem? hb)) (Int.le_of_lt h) (hs i j a b (by omega) ha hb)
    have : cmpG m w b ≠ 0 := fun z => by have := (t.2 z).1; omega
    omega
theorem pos_ex {m : Nat} {w : List Int} {l : List (List Int)} (hw : Wd (m + 1) w) (hl : ∀ x ∈ l, Wd (m + 1) x) (hs : Srt m l) : ∃ P, Pos m w l P := by
  have key : ∀ n, n ≤ l.length → (∃ P, Pos m w l P) ∨ ∀ (j : Nat) (a : List Int), l.length - n ≤ j → l[j]? = some a → cmpG m w a < 0 := fun n => by
    induction n with
    | zero => intro _; exact .inr fun j a hj ha => by have := (List.getElem?_eq_some_iff.mp ha).1; omega
    | succ n ih =>
      intro hn
      rcases ih (by omega) with q | q
      · exact .inl q
      · have hlt : l.length - (n + 1) < l.length := by omega
        by_cases c : cmpG m w l[l.length - (n + 1)] < 0
        · refine .inr fun j a hj ha => ?_
          by_cases e : j = l.length - (n + 1)
          · subst e
            rw [List.getElem?_eq_getElem hlt] at ha
            cases ha
            exact c
          · exact q j a (by omega) ha
        · refine .inl ⟨l.length - n, by omega, fun j a hj ha => ?_, fun j a hj ha => q j a hj ha⟩
          apply Classical.byContradiction
          intro z
          exact c (hs.mono hw hl (show j ≤ l.length - (n + 1) by omega) ha (List.getElem?_eq_getElem hlt) (by omega))
  rcases key l.length (Nat.le_refl _) with q | q
  · exact q
  · exact ⟨0, Nat.zero_le _, fun j a hj => by omega, fun j a _ ha => q j a (by omega) ha⟩
/-! ### the program's place of a word -/
def P_place_behind (F_lean : FD) (F_carried : FD) (F_curve_of : FD) (F_undone : FD) (mu__place_behind_1 : Rho → Nat) : FS := (gSeq (gSet 3 (fCall F_curve_of (aCons (fVar 0) (aCons (fCall F_undone (aCons (fVar 2) aNil)) aNil))))
    (gSeq (gSet 4 (fC (.int 0)))
    (gSeq (gSet 5 (fC1 gLen (aCons (fVar 1) aNil)))
    (gSeq (gWh mu__place_behind_1 (fB (f2 gLt (fVar 4) (fVar 5))) (gSeq (gSet 6 (f2 gDiv (f2 gAdd (fVar 4) (fVar 5)) (fC (.int 2))))
    (gIf (fB (f2 gGt (fCall F_lean (aCons (fCall F_carried (aCons (fVar 3) (aCons (f2 gIx (fVar 1) (fVar 6)) aNil))) aNil)) (fC (.int 0)))) (gSet 5 (fVar 6)) (gSet 4 (f2 gAdd (fVar 6) (fC (.int 1)))))))
    (gRet (fVar 4))))))
def wds (l : List (List Int)) : PyData := .list (l.map wd)
theorem p_place_behind {FL FC FV FU : FD} {m P : Nat} {s : Int} {w : List Int} {l : List (List Int)} (hn : l.length ≤ 90) (hw : Wd (m + 1) w) (hl : ∀ x ∈ l, Wd (m + 1) x) (hs : Srt m l) (hp : Pos m w l P)
    (h1 : FU [wd w] = some (wd (undoneL w))) (h2 : FV [.int s, wd (undoneL w)] = some (wd (curveL (m + 1) (undoneL w))))
    (h3 : ∀ x ∈ l, FC [wd (curveL (m + 1) (undoneL w)), wd x] = some (wd (flatP (carP x (carP (undoneL w) (plainP (m + 1)))))))
    (h4 : ∀ ps, FL [wd (flatP ps)] = some (.int (leanP ps))) : runD 7 (P_place_behind FL FC FV FU fun _ => 100) [.int s, wds l, wd w] = some (.int (P : Int)) := by
  have hlen : (l.map wd).length = l.length := List.length_map ..
  simp -implicitDefEqProofs [runD_eq, P_place_behind, h1, h2, Option.bind_assoc, wds, -List.map_map]
  refine whD_then (n := l.length) (fun n ρ => ∃ (lo hi : Nat) (x : Slot), ρ = [Slot.d (.int s), .d (wds l), .d (wd w), .d (wd (curveL (m + 1) (undoneL w))), .d (.int (lo : Int)), .d (.int (hi : Int)), x] ∧ lo ≤ P ∧ P ≤ hi ∧ hi ≤ l.length ∧ hi - lo ≤ n)
    (fun ρ => ∃ (hi : Nat) (x : Slot), ρ = [Slot.d (.int s), .d (wds l), .d (wd w), .d (wd (curveL (m + 1) (undoneL w))), .d (.int (P : Int)), .d (.int (hi : Int)), x]) ?_ ⟨0, l.length, _, rfl, by omega, hp.1, by omega, by omega⟩ (by omega) ?_
  · rintro n ρ ⟨lo, hi, x, rfl, q1, q2, q3, q4⟩
    by_cases c : lo < hi
    · refine .inr ⟨by simp -implicitDefEqProofs [c], ?_⟩
      have hmid : ((lo : Int) + (hi : Int)) / 2 = (((lo + hi) / 2 : Nat) : Int) := by omega
      obtain ⟨md, hmd⟩ : ∃ md, md = (lo + hi) / 2 := ⟨_, rfl⟩
      rw [← hmd] at hmid
      have m1 : lo ≤ md := by omega
      have m2 : md < hi := by omega
      have hget : l[md]? = some (l[md]'(by omega)) := List.getElem?_eq_getElem (by omega)
      have hat : atI (l.map wd) (md : Int) = some (wd (l[md]'(by omega))) := atI_nat (by rw [List.getElem?_map, hget]; rfl)
      have hx := hl _ (List.mem_of_getElem? hget)
      have e3 := h3 _ (List.mem_of_getElem? hget)
      have e4 := h4 (carP (l[md]'(by omega)) (carP (undoneL w) (plainP (m + 1))))
      have e5 : leanP (carP (l[md]'(by omega)) (carP (undoneL w) (plainP (m + 1)))) = -cmpG m w (l[md]'(by omega)) := by
        rw [← cmp_lean hw hx, carP_app]
        omega
      rw [e5] at e4
      by_cases d : cmpG m w (l[md]'(by omega)) < 0
      · have d' : 0 < -cmpG m w (l[md]'(by omega)) := by omega
        refine ⟨[Slot.d (.int s), .d (wds l), .d (wd w), .d (wd (curveL (m + 1) (undoneL w))), .d (.int (lo : Int)), .d (.int (md : Int)), .d (.int (md : Int))], n - 1, by omega, ?_, lo, md, _, rfl, q1, ?_, by omega, by omega⟩
        · simp -implicitDefEqProofs [hmid, wds, hat, e3, e4, d', d, -List.map_map]
        · apply Classical.byContradiction
          intro z
          have := hp.2.1 md _ (by omega) hget
          omega
      · have d' : ¬ 0 < -cmpG m w (l[md]'(by omega)) := by omega
        refine ⟨[Slot.d (.int s), .d (wds l), .d (wd w), .d (wd (curveL (m + 1) (undoneL w))), .d (.int ((md + 1 : Nat) : Int)), .d (.int (hi : Int)), .d (.int (md : Int))], n - 1, by omega, ?_, md + 1, hi, _, rfl, ?_, q2, q3, by omega⟩
        · simp -implicitDefEqProofs [hmid, wds, hat, e3, e4, d', d, -List.map_map]
        · apply Classical.byContradiction
          intro z
          have := hp.2.2 md _ (by omega) hget
          omega
    · refine .inl ⟨by simp -implicitDefEqProofs [c], hi, x, ?_⟩
      have : lo = P := by omega
      rw [this]
  · rintro ρ ⟨hi, x, rfl⟩
    simp -implicitDefEqProofs
/-! ### ascending -/
def P_ascending (F__place_behind : FD) : FS := (gSeq (gSetO 2 (fLst aNil))
    (gSeq (gFor (itF (fVar 1)) (uName 3) (gIns 2 (fCallL F__place_behind (aCons (fVar 0) (aCons (fVar 2) (aCons (fVar 3) aNil)))) (fVar 3)))
    (gRet (fVar 2))))
/-- the words put in one by one -/
inductive Put (m : Nat) : List (List Int) → List (List Int) → Prop
  | nil : Put m [] []
  | snoc {us l : List (List Int)} {w : List Int} {P : Nat} (h : Put m us l) (p : Pos m w l P) : Put m (us ++ [w]) (insL P w l)
theorem snoc_inj {α : Type} {us us' : List α} {w w' : α} (h : us ++ [w] = us' ++ [w']) : us = us' ∧ w = w' := by
  have e1 := List.append_inj_left' h rfl
  have e2 := List.append_inj_right' h rfl
  exact ⟨e1, by simpa using e2⟩
theorem Put.uniq {m : Nat} : ∀ {us l : List (List Int)}, Put m us l → ∀ {l' : List (List Int)}, Put m us l' → l = l' := by
  intro us l h
  induction h with
  | nil =>
    intro l' h'
    generalize hz : ([] : List (List Int)) = z at h'
    cases h' with
    | nil => rfl
    | snoc h p => cases (List.append_eq_nil_iff.mp hz.symm).2
  | @snoc us l w P h p ih =>
    intro l' h'
    generalize hz : us ++ [w] = z at h'
    cases h' with
    | nil => cases (List.append_eq_nil_iff.mp hz).2
    | @snoc us' l2 w' P' h2 p2 =>
      obtain ⟨rfl, rfl⟩ := snoc_inj hz
      have := ih h2
      subst this
      rw [p.uniq p2]
theorem Put.facts {m : Nat} {us l : List (List Int)} (h : Put m us l) (hu : ∀ x ∈ us, Wd (m + 1) x) : l.length = us.length ∧ (∀ x ∈ l, Wd (m + 1) x) ∧ Srt m l := by
  induction h with
  | nil => exact ⟨rfl, fun x h => (nomatch h), fun i j a b _ h => by simp at h⟩
  | @snoc us l w P h p ih =>
    obtain ⟨h1, h2, h3⟩ := ih fun x hx => hu x (List.mem_append_left _ hx)
    have hw := hu w (by simp)
    refine ⟨by rw [insL_len p.1, h1, List.length_append]; rfl, fun x hx => ?_, h3.ins hw h2 p⟩
    rcases insL_mem hx with rfl | hx
    · exact hw
    · exact h2 x hx
theorem put_ex {m : Nat} {us : List (List Int)} (hu : ∀ x ∈ us, Wd (m + 1) x) : ∃ l, Put m us l := by
  have key : ∀ (n : Nat) (us : List (List Int)), us.length = n → (∀ x ∈ us, Wd (m + 1) x) → ∃ l, Put m us l := fun n => by
    induction n with
    | zero =>
      intro us h _
      rw [List.length_eq_zero_iff.mp h]
      exact ⟨[], .nil⟩
    | succ n ih =>
      intro us h hu
      rcases List.eq_nil_or_concat us with q | ⟨v, w, q⟩
      · subst q; cases h
      · rw [List.concat_eq_append] at q
        subst q
        have hv := fun x hx => hu x (List.mem_append_left [w] hx)
        obtain ⟨l, hl⟩ := ih v (by simpa using h) hv
        have f := hl.facts hv
        obtain ⟨P, hP⟩ := pos_ex (hu w (by simp)) f.2.1 f.2.2
        exact ⟨_, hl.snoc hP⟩
  exact key _ us rfl hu
theorem map_insL {P : Nat} {w : List Int} {l : List (List Int)} : (insL P w l).map wd = (l.map wd).take P ++ [wd w] ++ (l.map wd).drop P := by
  unfold insL
  rw [List.map_append, List.map_append, List.map_take, List.map_drop]
  rfl
theorem p_ascending {FB : FD} {m : Nat} {s : Int} {us l : List (List Int)} (hn : us.length ≤ 80) (hu : ∀ x ∈ us, Wd (m + 1) x) (hput : Put m us l)
    (hB : ∀ (w : List Int) (l : List (List Int)) (P : Nat), w ∈ us → l.length ≤ 90 → (∀ x ∈ l, x ∈ us) → Srt m l → Pos m w l P → FB [.int s, wds l, wd w] = some (.int (P : Int))) :
    runD 4 (P_ascending FB) [.int s, wds us] = some (wds l) := by
  have key : ∃ d, runD 4 (P_ascending FB) [.int s, wds us] = some d ∧ ∃ l, Put m us l ∧ d = wds l := by
    simp -implicitDefEqProofs [runD_eq, P_ascending, Option.bind_assoc, wds, -List.map_map]
    refine forD_ex (fun i ρ => ∃ (l : List (List Int)) (x : Slot), ρ = [Slot.d (.int s), .d (wds us), .own (l.map wd), x] ∧ Put m (us.take i) l ∧ ∀ x ∈ l, x ∈ us) ⟨[], _, rfl, .nil, fun x h => (nomatch h)⟩ ?_ ?_
    · rintro i x ρ hi ⟨l, x0, rfl, hp, hmem⟩
      obtain ⟨w, hw1, rfl⟩ := map_get hi
      have hi' : i < us.length := (List.getElem?_eq_some_iff.mp hw1).1
      have hwm := List.mem_of_getElem? hw1
      have f := hp.facts fun x hx => hu x (List.mem_of_mem_take hx)
      have ll : l.length ≤ 80 := by rw [f.1, List.length_take]; omega
      obtain ⟨P, hP⟩ := pos_ex (hu w hwm) f.2.1 f.2.2
      have e := hB w l P hwm (by omega) hmem f.2.2 hP
      have e' : FB [.int s, .list (l.map wd), wd w] = some (.int (P : Int)) := e
      have hpl := hP.1
      refine goes_at (ρ1 := [Slot.d (.int s), .d (wds us), .own (l.map wd), .d (wd w)]) rfl ?_
      refine goes_one ⟨[Slot.d (.int s), .d (wds us), .own ((insL P w l).map wd), .d (wd w)], ?_, insL P w l, _, rfl, ?_, fun x hx => ?_⟩
      · rw [map_insL]
        have z1 : (P : Int) < 9223372036854775808 := by omega
        have z2 : l.length ≤ 100000 := by omega
        simp -implicitDefEqProofs [e', z1, z2, -List.map_map, -List.map_take, -List.map_drop]
      · rw [List.take_succ, hw1]
        exact hp.snoc hP
      · rcases insL_mem hx with rfl | hx
        · exact hwm
        · exact hmem x hx
    · rintro ρ ⟨l, x, rfl, hp, _⟩
      rw [List.length_map, List.take_length] at hp
      exact ⟨_, rfl, l, hp, rfl⟩
  obtain ⟨d, e, l2, h2, rfl⟩ := key
  rw [e, hput.uniq h2]
/-! ### lists of words as data -/
theorem shaped_wds {l : List (List Int)} : SeqAt.shaped (.list (l.map wd)) = true := by
  have h1 : PyData.canLayAll0 (l.map wd) = true := by
    induction l with
    | nil => simp [PyData.canLayAll0]
    | cons x l ih => simp [PyData.canLayAll0, PyData.canLay0, lay_ints, ih]
  have h2 : PyData.depthAll (l.map wd) ≤ 1 := by
    induction l with
    | nil => simp [PyData.depthAll]
    | cons x l ih =>
      have := ih (by simpa [PyData.canLayAll0, PyData.canLay0, lay_ints] using h1)
      simp [PyData.depthAll, PyData.depth, depth_ints]
      omega
  simp [SeqAt.shaped, PyData.canLay0, PyData.depth, h1]
  omega
theorem eqvAll_wds : ∀ {l l' : List (List Int)}, PyData.eqvAll (l.map wd) (l'.map wd) = decide (l = l')
  | [], [] => by simp [PyData.eqvAll]
  | [], _ :: _ => by simp [PyData.eqvAll]
  | _ :: _, [] => by simp [PyData.eqvAll]
  | x :: l, y :: l' => by
    rw [List.map_cons, List.map_cons, PyData.eqvAll, eqv_ints_t, eqvAll_wds]
    by_cases h : x = y <;> by_cases h2 : l = l' <;> simp [h, h2]
theorem eqv_wds {l l' : List (List Int)} : PyData.eqv (.list (l.map wd)) (.list (l'.map wd)) = decide (l = l') := by
  rw [PyData.eqv, eqvAll_wds]
theorem eqv_wds_nil {l : List (List Int)} : PyData.eqv (.list (l.map wd)) (.list []) = decide (l = []) := eqv_wds (l' := [])
/-! ### a script's cell -/
def G_cell (F__law_mixed : FD) : FS := (gSeq (gIf (fB (f2 gLt (fVar 1) (fC1 gLen (aCons (fVar 0) aNil)))) (gRet (fCall F__law_mixed (aCons (f2 gIx (fVar 0) (fVar 1)) (aCons (fVar 1) aNil)))) DL.gNil)
    (gRet (fCall F__law_mixed (aCons (fC (.int 0)) (aCons (fVar 1) aNil)))))
def cellv (ns : List Int) (k : Nat) : Int := mixed (ns.getD k 0) (k : Int)
theorem r_cell {FM : FD} {ns : List Int} {k : Nat} (h : ∀ c t, FM [.int c, .int t] = some (.int (mixed c t))) : runD 2 (G_cell FM) [.list (ns.map PyData.int), .int (k : Int)] = some (.int (cellv ns k)) := by
  unfold cellv
  by_cases q : k < ns.length
  · have hat : atI (ns.map PyData.int) (k : Int) = some (.int (ns.getD k 0)) := atI_nat (by rw [List.getElem?_map, List.getElem?_eq_getElem q, List.getD_eq_getElem?_getD, List.getElem?_eq_getElem q]; rfl)
    simp -implicitDefEqProofs [runD_eq, G_cell, h, q, hat]
  · have e : ns.getD k 0 = 0 := by rw [List.getD_eq_getElem?_getD, List.getElem?_eq_none (by omega)]; rfl
    simp -implicitDefEqProofs [runD_eq, G_cell, h, q]
end DL
/-! sorted(xs) of a list of tuples of ints, of any lengths -/
namespace DL
open PySem PySem.Spec PyProof.Rows L2 PySem.W PySem.Calls
abbrev wdI (ns : List Int) : PyData := .tuple (ns.map PyData.int)
theorem lexLt_lt : ∀ ns ms : List Int, HT.lexLt ns ms = decide (ns < ms)
  | [], [] => by rw [HT.lexLt_nil_nil]; exact (decide_eq_false (List.lt_irrefl _)).symm
  | [], y :: ys => by rw [HT.lexLt_nil_cons]; exact (decide_eq_true (List.nil_lt_cons _ _)).symm
  | x :: xs, [] => by rw [HT.lexLt_cons_nil]; exact (decide_eq_false (List.not_lt_nil _)).symm
  | x :: xs, y :: ys => by
    rw [HT.lexLt_cons, lexLt_lt xs ys]
    by_cases h : x = y
    · subst h
      rw [if_pos rfl]
      have : (x :: xs < x :: ys) ↔ xs < ys := by rw [List.cons_lt_cons_iff]; simp
      simp [this]
    · rw [if_neg h]
      have : (x :: xs < y :: ys) ↔ x < y := by rw [List.cons_lt_cons_iff]; simp [h]
      simp [this]
theorem dataLt_wd (ns ms : List Int) : dataLt (wdI ns) (wdI ms) = HT.lexLt ns ms := by
  rw [dataLt_tuple, lexLt_lt]
  exact dataLt_ints ns ms
theorem alike_wd (ns ms : List Int) : alike (wdI ns) (wdI ms) = true := by
  show alike (.tuple (ns.map PyData.int)) (.tuple (ms.map PyData.int)) = true
  simp only [alike]
  exact alike_ints ns ms
theorem depth_wd (ns : List Int) : (wdI ns).depth ≤ 1 := by
  show (PyData.tuple (ns.map PyData.int)).depth ≤ 1
  simp only [PyData.depth]
  rw [depth_ints]
  omega
theorem ints_of_reads {h : Heap} : ∀ {vs : List Value} {ns : List Int} {as : List Addr}, ReadsAll h vs (ns.map PyData.int) as → IntsAre vs ns
  | _, [], _, r => by
    have r' : ReadsAll h _ [] _ := r
    cases r'
    exact .nil
  | _, n :: ns, _, r => by
    have r' : ReadsAll h _ (PyData.int n :: ns.map PyData.int) _ := r
    cases r' with
    | cons h1 h2 =>
      cases h1
      exact .cons _ _ (ints_of_reads h2)
section
variable {prog : Program} {w : World} {A : Around} {E : Value → Shared → Prop} {s : Shared}
theorem lt_one {x y : Value} {ns ms : List Int} {as bs : List Addr} {Q : Bool → Shared → Prop} (ra : Reads s.heap x (wdI ns) as) (rb : Reads s.heap y (wdI ms) bs) (hu : A.units < cLine) (h : Q (HT.lexLt ns ms) s) :
    wpAny (model prog w) A (keyLt' oneType' x y) Q E s := by
  cases ra with
  | @tuple a o us n _ _ h1 h2 h3 h4 =>
    cases rb with
    | @tuple b o' us' n' _ _ k1 k2 k3 k4 =>
      obtain ⟨c0, d0, dat, sl⟩ := o
      obtain ⟨c1, d1, dat1, sl1⟩ := o'
      dsimp only at h2 h3 k2 k3
      subst h2 h3 k2 k3
      rw [keyLt'_oneType, oneLt'_eq]
      simp only [if_true]
      refine wpAny_bind (wpAny_cRoomFor hu ?_)
      refine wpAny_bind (wpAny_callSpecialIfBound?_slot (T := "tuple") ⟨_, h1, rfl⟩ PySem.F.slot_tuple_lt (call_meets PySem.F.slot_tuple_lt ⟨_, h1, rfl⟩ PySem.F.entry_tuple_lt (PySem.F.args_tuple_lt_2 _ _) (HT.tuple_lt_ints a b us us' n n' d0 d1 sl sl1 ns ms (ints_of_reads h4) (ints_of_reads k4)) ⟨h1, k1, ?_⟩))
      exact wpAny_truthy_bool h
end
section
variable {M : Model} {A : Around} {E : Value → Shared → Prop} {s : Shared}
theorem first_wd {v : Value} {ns : List Int} {as : List Addr} {Q : Option Value → Shared → Prop} (r : Reads s.heap v (wdI ns) as) (h : ∀ f : Option Value, f.isSome = !ns.isEmpty → Q f s) : wpAny M A (firstOfTuple' v) Q E s := by
  cases r with
  | @tuple a o us n _ _ h1 h2 h3 h4 =>
    rw [kas_first_eq]
    refine wpAny_bind (Looks.here (show Looks M s.heap (typeOf (.ref a)) o.cls from (Looks.ld h1).andThen .now) ?_)
    rw [h2, if_neg (by first | decide | simp)]
    refine wpAny_bind (listItems_at h1 h3 (wpAny_pure (h _ ?_)))
    have hi := (ints_of_reads h4).length
    cases ns with
    | nil =>
      have : us.size = 0 := by simpa using hi
      simp [this]
    | cons x ns =>
      have : 0 < us.size := by have : us.size = ns.length + 1 := by simpa using hi
                               omega
      simp [this]
theorem firsts_wd : ∀ {vs : List Value} {nss : List (List Int)} {Q : List (Option Value) → Shared → Prop}, EachIs (fun v ns => ∃ as, Reads s.heap v (wdI ns) as) vs nss → (∀ fs : List (Option Value), fs.map Option.isSome = nss.map (fun ns => !ns.isEmpty) → Q fs s) → wpAny M A (vs.mapM firstOfTuple') Q E s
  | _, _, _, .nil, h => by rw [List.mapM_nil]; exact wpAny_pure (h [] rfl)
  | _, _, Q, .cons ⟨as, r⟩ t, h => by
    rw [List.mapM_cons]
    refine wpAny_bind (first_wd r fun f hf => wpAny_bind (firsts_wd (Q := fun fs s' => wpAny M A (pure (f :: fs)) Q E s') t fun fs hfs => wpAny_pure (h (f :: fs) ?_)))
    rw [List.map_cons, List.map_cons, hf, hfs]
theorem type_wd {v : Value} {ns : List Int} {as : List Addr} (r : Reads s.heap v (wdI ns) as) : Looks M s.heap (typeOf v) (.type "tuple") := looks_reads r
/-- the kind of keys of tuples of which one is empty -/
theorem kind_wd {vs : List Value} {nss : List (List Int)} {Q : SortKind → Shared → Prop} (e : EachIs (fun v ns => ∃ as, Reads s.heap v (wdI ns) as) vs nss) (hne : [] ∈ nss) (h1 : nss.head? ≠ some [] → Q general' s) (h2 : nss.head? = some [] → Q oneType' s) : wpAny M A (keyKind' vs.toArray) Q E s := by
  rw [keyKind'_eq, List.mapM_toArray, map_eq_pure_bind]
  refine wpAny_bind (wpAny_bind (firsts_wd e fun fs hfs => wpAny_pure ?_))
  have no : ¬ ((fs.toArray.all fun x => x.isSome) = true) := fun z => by
    have z' : ∀ b ∈ fs.map Option.isSome, b = true := fun b hb => by
      obtain ⟨f, hf, rfl⟩ := List.mem_map.mp hb
      have := (Array.all_eq_true_iff_forall_mem.mp z) f (by simpa using hf)
      exact this
    rw [hfs] at z'
    have := z' _ (List.mem_map.mpr ⟨[], hne, rfl⟩)
    exact absurd this (by decide)
  rw [if_neg no]
  cases nss with
  | nil => cases hne
  | cons ns nss =>
    cases fs with
    | nil => cases hfs
    | cons f fs =>
      injection hfs with hf _
      cases ns with
      | nil =>
        cases f with
        | some x => cases hf
        | none =>
          rw [if_neg (by simp), oneTypeOnly'_eq, List.mapM_toArray, map_eq_pure_bind]
          refine wpAny_bind (wpAny_bind (wpAny_bind (kas_mapM (r := Value.type "tuple") _ (fun v hv Q' hq => ?_) (wpAny_pure ?_))))
          · obtain ⟨ns, _, as, r⟩ := e.left v hv
            exact (type_wd r).here hq
          · cases vs with
            | nil => cases e
            | cons v vs =>
              have hall : ((List.map (fun _ => Value.type "tuple") (v :: vs)).toArray.all fun x => x == Value.type "tuple") = true := by
                simp only [List.all_toArray, List.all_map, List.all_eq_true]
                intro _ _
                rfl
              have h0 : (List.map (fun _ => Value.type "tuple") (v :: vs)).toArray[0]? = some (Value.type "tuple") := by simp
              rw [h0]
              simp only [hall, if_true]
              exact wpAny_pure (wpAny_pure (h2 rfl))
      | cons x ns =>
        cases f with
        | none => cases hf
        | some y =>
          rw [if_pos (by simp)]
          exact wpAny_pure (h1 (by simp))
end
section
variable {prog : Program} {w : World} {A : Around} {s : Shared}
/-- tuples of ints can be sorted -/
theorem sortsAt_wd {vs : List Value} {nss : List (List Int)} (e : EachIs (fun v ns => ∃ as, Reads s.heap v (wdI ns) as) vs nss) (hu : A.units + 1 < cLine) : SortsAt prog w A s (dataKind s.heap (nss.map wdI)) vs := by
  have e2 : EachIs (fun v d => ∃ as, Reads s.heap v d as) vs (nss.map wdI) := each_map (R := fun v d => ∃ as, Reads s.heap v d as) wdI e
  have hal : AllAlike (nss.map wdI) := AllAlike.of alike_wd
  have hdep : ∀ d, d ∈ nss.map wdI → A.units + d.depth < cLine := fun d hd => by
    obtain ⟨ns, _, rfl⟩ := List.mem_map.mp hd
    have := depth_wd ns
    omega
  by_cases hne : [] ∈ nss
  · refine ⟨fun v hv => ?_, ?_⟩
    · obtain ⟨d, hd, as, r⟩ := e2.left v hv
      exact ⟨_, dataKind_some hal hd r⟩
    · by_cases hh : nss.head? = some []
      · refine ⟨oneType', fun E x y a b Q ha hb hq => ?_, fun _ E Q hq => kind_wd e hne (fun z => absurd hh z) fun _ => hq⟩
        obtain ⟨d, as, hd, ra, rfl⟩ := dataKind_inv ha
        obtain ⟨d', as', hd', rb, rfl⟩ := dataKind_inv hb
        obtain ⟨ns, _, rfl⟩ := List.mem_map.mp hd
        obtain ⟨ms, _, rfl⟩ := List.mem_map.mp hd'
        have hq' : Q (dataLt (wdI ns) (wdI ms)) s := hq
        rw [dataLt_wd] at hq'
        exact lt_one ra rb (by omega) hq'
      · refine ⟨general', fun E x y a b Q ha hb hq => ?_, fun _ E Q hq => kind_wd e hne (fun _ => hq) fun z => absurd z hh⟩
        obtain ⟨d, as, hd, ra, rfl⟩ := dataKind_inv ha
        obtain ⟨d', as', hd', rb, rfl⟩ := dataKind_inv hb
        obtain ⟨ns, _, rfl⟩ := List.mem_map.mp hd
        obtain ⟨ms, _, rfl⟩ := List.mem_map.mp hd'
        have hm : min (wdI ns).depth (wdI ms).depth ≤ 1 := Nat.le_trans (Nat.min_le_left _ _) (depth_wd ns)
        show wpAny (model prog w) A (oneLt' false x y) Q E s
        exact oneLt_alike (fun z => by cases z) ra rb (alike_wd ns ms) (by intro z; cases z) (by omega) hq
  · refine SortsAt.data e2 hal (.inl fun d hd => ?_) hdep
    obtain ⟨ns, hns, rfl⟩ := List.mem_map.mp hd
    cases ns with
    | nil => exact absurd hns hne
    | cons x ns => exact ⟨.int x, ns.map PyData.int, rfl⟩
end
/-- each of the values a tuple of these ints -/
abbrev TupsI (K : PySem.W.Frag) (H : Hp) : List V → List (List Int) → Prop := EachIs fun x ns => ∃ l, x = V.ref l ∧ SqT K H l (ns.map V.int)
/-- the words in the order of tuples -/
def ordW (nss : List (List Int)) : List (List Int) := nss.mergeSort (dataLe false wdI)
def rSortW (K : PySem.W.Frag) : List V → Hp → VK → Prop := fun vs H Q => ∃ (a : Addr) (xs : List V) (nss : List (List Int)) (Hf : Hp), vs = [V.ref a] ∧ SqL K H a xs ∧ Same Hf H ∧ TupsI K Hf xs nss ∧
  ∀ (ys : List V) (p : Addr), TupsI K Hf ys (ordW nss) → H p = none → Q (.ref p) (upd H p (.lst ys))
theorem each_trans {α β γ : Type} {R : α → β → Prop} {S : α → γ → Prop} {T : γ → β → Prop} (h : ∀ a b c, R a b → S a c → T c b) : ∀ {as : List α} {bs : List β} {cs : List γ}, EachIs R as bs → EachIs S as cs → EachIs T cs bs
  | _, _, _, .nil, .nil => .nil
  | _, _, _, .cons r rs, .cons s ss => .cons (h _ _ _ r s) (each_trans h rs ss)
theorem vals_each : ∀ {xs : List V} {us : List Value}, Vals xs us → EachIs (fun x u => RelV x u) xs us
  | _, _, .nil => .nil
  | _, _, .cons r t => .cons r (vals_each t)
theorem each_vals : ∀ {xs : List V} {us : List Value}, EachIs (fun x u => RelV x u) xs us → Vals xs us
  | _, _, .nil => .nil
  | _, _, .cons r t => .cons r (each_vals t)
theorem reads_ints {h : Heap} : ∀ {ns : List Int} {us : List Value}, Vals (ns.map V.int) us → ReadsAll h us (ns.map PyData.int) []
  | [], us, r => by
    have r' : Vals [] us := r
    cases r'
    exact .nil
  | n :: ns, us, r => by
    have r' : Vals (V.int n :: ns.map V.int) us := r
    cases r' with
    | cons h1 h2 =>
      obtain ⟨t, rfl⟩ := h1
      exact ReadsAll.cons (as := []) (bs := []) (.int _ _) (reads_ints h2)
theorem ordW_len (nss : List (List Int)) : (ordW nss).length = nss.length := List.length_mergeSort _
theorem cr_sortW {X : Cx} (hu : X.A.units + 64 < cLine) : CallR X (.builtin "sorted") (rSortW X.K) := fun pins s σ H vs us Q I r h => by
  obtain ⟨a, xs, nss, Hf, rfl, hs, hfs, ht, q⟩ := h
  rw [Vals.ref1 r]
  obtain ⟨items, rel, hl, small⟩ := I.list hs
  -- what the values stand for
  have e0 : EachIs (fun v ns => ∃ l, v = Value.ref l ∧ SqT X.K Hf l (ns.map V.int)) items nss := each_trans (fun x ns u (h2 : ∃ l, x = V.ref l ∧ SqT X.K Hf l (ns.map V.int)) (h1 : RelV x u) => by
    obtain ⟨l, rfl, h3⟩ := h2
    exact ⟨l, h1, h3⟩) ht (vals_each rel)
  have er : EachIs (fun v ns => ∃ as, Reads s.heap v (wdI ns) as) items nss := e0.mono fun v ns h => by
    obtain ⟨l, rfl, h3⟩ := h
    obtain ⟨us, rv, ⟨o, ho, hc, n, hd⟩, _⟩ := I.tuple (sqt_mono hfs h3)
    exact ⟨_, .tuple ho hc hd (reads_ints rv)⟩
  have er' : EachIs (fun v ns => ∃ as, Reads (sortingHeap (copyHeap s.heap items) (s.heap.objs.size + 1) items) v (wdI ns) as) items nss := er.mono fun _ _ h => by
    obtain ⟨as, r⟩ := h
    exact ⟨as, PyProof.Rows.Reads.keeps (fun _ _ => sorting_copy_old) r⟩
  have hlen : items.length = nss.length := e0.length
  have hsm : items.length ≤ sizeLine := by rw [← rel.length]; exact small
  refine sorted_vals hl.isList (sortsAt_wd (s := { s with heap := sortingHeap (copyHeap s.heap items) (s.heap.objs.size + 1) items }) er' (by show X.A.units + 2 + 1 < cLine; omega)) hsm ?_
  have eo := sortVals_data false e0 er' (AllAlike.of alike_wd)
  generalize sortVals (dataKind (sortingHeap (copyHeap s.heap items) (s.heap.objs.size + 1) items) (nss.map wdI)) false items items = out at eo
  have yx : ∀ {out : List Value} {ms : List (List Int)}, EachIs (fun v ns => ∃ l, v = Value.ref l ∧ SqT X.K Hf l (ns.map V.int)) out ms → ∃ ys, Vals ys out ∧ TupsI X.K Hf ys ms := fun {out ms} e => by
    induction e with
    | nil => exact ⟨[], .nil, .nil⟩
    | cons h _ ih =>
      obtain ⟨l, rfl, h3⟩ := h
      obtain ⟨ys, h4, h5⟩ := ih
      exact ⟨V.ref l :: ys, .cons rfl h4, .cons ⟨l, rfl, h3⟩ h5⟩
  obtain ⟨ys, hv, hy⟩ := yx eo
  obtain ⟨ep, there⟩ := PyProof.Rows.sortedAll_at s.heap items out.toArray
  have len : ys.length ≤ sizeLine := by
    have a1 := hy.length
    have a2 : (nss.mergeSort (dataLe false wdI)).length = nss.length := List.length_mergeSort _
    omega
  exact ⟨.ref _, upd H (s.heap.objs.size + 1) (.lst ys), I.laid (t' := s.toks) (fun _ _ => PyProof.Rows.sortedAll_old) (Nat.le_succ _) ⟨len, out, ep, hv, there⟩, rfl, q _ _ hy (I.hok.fresh (Nat.le_succ _))⟩
/-- a list of tuples of ints -/
def wdsOf : List PyData → Option (List (List Int))
  | [] => some []
  | .tuple xs :: r => (intsOf xs).bind fun ns => (wdsOf r).map (ns :: ·)
  | _ :: _ => none
theorem wdsOf_map : ∀ nss : List (List Int), wdsOf (nss.map wd) = some nss
  | [] => rfl
  | ns :: nss => by
    show (intsOf (ns.map PyData.int)).bind (fun ns => (wdsOf (nss.map wd)).map (ns :: ·)) = _
    rw [intsOf_map, Option.bind_some, wdsOf_map nss]
    rfl
theorem wdsOf_some : ∀ {ds : List PyData} {nss : List (List Int)}, wdsOf ds = some nss → ds = nss.map wd
  | [], _, h => by cases h; rfl
  | .tuple xs :: r, _, h => by
    obtain ⟨ns, h1, h2⟩ := Option.bind_eq_some_iff.mp (show (intsOf xs).bind (fun ns => (wdsOf r).map (ns :: ·)) = _ from h)
    obtain ⟨ms, h3, h4⟩ := Option.map_eq_some_iff.mp h2
    subst h4
    rw [List.map_cons, ← wdsOf_some h3, intsOf_some h1]
  | .none :: _, _, h => by cases h
  | .bool _ :: _, _, h => by cases h
  | .int _ :: _, _, h => by cases h
  | .str _ :: _, _, h => by cases h
  | .list _ :: _, _, h => by cases h
  | .dict _ :: _, _, h => by cases h
theorem tups_of {K : PySem.W.Frag} {H : Hp} : ∀ {vs : List V} {nss : List (List Int)}, DpAll K H vs (nss.map wd) → TupsI K H vs nss
  | _, [], h => by
    have h' : DpAll K H _ [] := h
    cases h'
    exact .nil
  | _, ns :: nss, h => by
    have h' : DpAll K H _ (wd ns :: nss.map wd) := h
    cases h' with
    | cons h1 h2 =>
      cases h1 with
      | tup s1 d1 =>
        have ew := dpa_ints' d1
        subst ew
        exact .cons ⟨_, rfl, s1⟩ (tups_of h2)
theorem of_tups {K : PySem.W.Frag} {H : Hp} : ∀ {vs : List V} {nss : List (List Int)}, TupsI K H vs nss → DpAll K H vs (nss.map wd)
  | _, _, .nil => .nil
  | _, _, .cons h t => by
    obtain ⟨l, rfl, s1⟩ := h
    exact .cons (Dp.tup s1 (dpa_ints _)) (of_tups t)
def gSortW : List PyData → Option Res
  | [.list ds] => (wdsOf ds).map fun nss => .nw ((ordW nss).map wd)
  | _ => none
theorem c_sortW {K : PySem.W.Frag} : OpC K (rSortW K) gSortW := fun B H0 Hf H vs rs c Q e1 e2 q hg k => by
  unfold gSortW at hg
  split at hg
  · rename_i xs h
    obtain ⟨nss, h1, h2⟩ := Option.map_eq_some_iff.mp hg
    subst h2
    obtain ⟨v, r, rfl, rfl, hr, q1⟩ := q.one h
    obtain ⟨p0, ws, rfl, s1, d1⟩ := q1.lst e1 hr
    rw [wdsOf_some h1] at d1
    refine ⟨p0, ws, nss, Hf, rfl, s1, e1, tups_of d1, fun ys p hy hp => ?_⟩
    exact k _ _ _ (Gr.newU e1 hp) ⟨p, _, rfl, hp, e1.free hp, upd_same, of_tups hy⟩
  · cases hg
theorem dataLe_wd (a b : List Int) : dataLe false wdI a b = decide (a ≤ b) := by
  rw [dataLe_eq]
  show (!dataLt (wdI b) (wdI a)) = _
  rw [dataLt_wd, lexLt_lt]
  by_cases h : b < a
  · have : ¬ a ≤ b := List.not_le.mpr h
    simp [h, this]
  · have : a ≤ b := List.not_lt.mp h
    simp [h, this]
/-- the order is one of the words alone -/
theorem ordW_perm {l l' : List (List Int)} (h : l.Perm l') : ordW l = ordW l' := by
  have e : dataLe false wdI = fun a b : List Int => decide (a ≤ b) := by
    funext a b
    exact dataLe_wd a b
  unfold ordW
  rw [e]
  have pw : ∀ l : List (List Int), (l.mergeSort fun a b => decide (a ≤ b)).Pairwise (· ≤ ·) := fun l => by
    have q := List.pairwise_mergeSort (le := fun a b : List Int => decide (a ≤ b)) (fun a b c h1 h2 => by
      have h1' := of_decide_eq_true h1
      have h2' := of_decide_eq_true h2
      exact decide_eq_true (List.le_trans h1' h2')) (fun a b => by
      rcases List.le_total a b with z | z
      · simp [z]
      · simp [z]) l
    exact q.imp fun h => of_decide_eq_true h
  refine List.Perm.eq_of_pairwise (le := (· ≤ ·)) (fun a b _ _ h1 h2 => List.le_antisymm h1 h2) (pw l) (pw l') ?_
  exact (List.mergeSort_perm _ _).trans (h.trans (List.mergeSort_perm _ _).symm)
end DL
/-! min(xs) of a list of tuples of ints -/
namespace DL
open PySem PySem.Spec PyProof.Rows L2 PySem.W PySem.Calls
def minW (n : List Int) (ns : List (List Int)) : List Int := ns.foldl (fun a y => if y < a then y else a) n
theorem minD_wd : ∀ (ns : List (List Int)) (n : List Int), minD (wdI n) (ns.map wdI) = wdI (minW n ns)
  | [], n => rfl
  | y :: ns, n => by
    show minD (if dataLt (wdI y) (wdI n) = true then wdI y else wdI n) (ns.map wdI) = wdI (minW (if y < n then y else n) ns)
    rw [dataLt_wd, lexLt_lt]
    by_cases h : y < n
    · rw [if_pos (decide_eq_true h), if_pos h, minD_wd]
    · rw [if_neg (by simp [h]), if_neg h, minD_wd]
theorem depthAll_wd : ∀ ns : List (List Int), PyData.depthAll (ns.map wdI) ≤ 1
  | [] => by simp [PyData.depthAll]
  | n :: ns => by
    rw [List.map_cons, PyData.depthAll]
    exact Nat.max_le.mpr ⟨depth_wd n, depthAll_wd ns⟩
theorem wdI_inj {a b : List Int} (h : wdI a = wdI b) : a = b := by
  injection h with h
  exact (List.map_inj_right fun x y e => by injection e).mp h
theorem each_at {α β : Type} {R : α → β → Prop} : ∀ {as : List α} {bs : List β}, EachIs R as bs → ∀ {i : Nat} {a : α}, as[i]? = some a → ∃ b, R a b
  | _, _, .nil, _, _, h => by simp at h
  | _, _, .cons r _, 0, _, h => by
    have e := Option.some.inj (show some _ = some _ from h)
    subst e
    exact ⟨_, r⟩
  | _, _, .cons _ t, i + 1, _, h => each_at t (by simpa using h)
def rMinW (K : PySem.W.Frag) : List V → Hp → VK → Prop := fun vs H Q => ∃ (a : Addr) (xs : List V) (n : List Int) (nss : List (List Int)) (Hf : Hp), vs = [V.ref a] ∧ SqL K H a xs ∧ Same Hf H ∧ TupsI K Hf xs (n :: nss) ∧
  ∀ l : Addr, SqT K Hf l ((minW n nss).map V.int) → Q (.ref l) H
theorem cr_minW {X : Cx} (hc : X.calm = true) (hu : X.A.units + 64 < cLine) : CallR X (.builtin "min") (rMinW X.K) := fun pins s σ H vs us Q I r h => by
  obtain ⟨a, xs, n, nss, Hf, rfl, hs, hfs, ht, q⟩ := h
  rw [Vals.ref1 r]
  obtain ⟨items, rel, hl, small⟩ := I.list hs
  have e0 : EachIs (fun v ns => ∃ l, v = Value.ref l ∧ SqT X.K Hf l (ns.map V.int)) items (n :: nss) := each_trans (fun x ns u (h2 : ∃ l, x = V.ref l ∧ SqT X.K Hf l (ns.map V.int)) (h1 : RelV x u) => by
    obtain ⟨l, rfl, h3⟩ := h2
    exact ⟨l, h1, h3⟩) ht (vals_each rel)
  have e1 : EachIs (fun v ns => (∃ l, v = Value.ref l ∧ SqT X.K Hf l (ns.map V.int)) ∧ ∃ as, Reads s.heap v (wdI ns) as) items (n :: nss) := e0.mono fun v ns h => by
    obtain ⟨l, rfl, h3⟩ := h
    obtain ⟨us, rv, ⟨o, ho, hc, k, hd⟩, _⟩ := I.tuple (sqt_mono hfs h3)
    exact ⟨⟨l, rfl, h3⟩, _, .tuple ho hc hd (reads_ints rv)⟩
  obtain ⟨as, ra⟩ := each_readsAll wdI (e1.mono fun _ _ h => h.2)
  have hd := depthAll_wd (n :: nss)
  refine min_list_data (vs := items.toArray) (x := wdI n) (xs := nss.map wdI) (I.ok.hd hc) hl.isList (by simpa using ra) ⟨fun x hx y hy => ?_, fun x hx => ?_⟩ (by
    have : PyData.depthAll (wdI n :: nss.map wdI) ≤ 1 := hd
    omega) fun i v h' tk bs hv rv hk => ?_
  · exact AllAlike.of alike_wd x (show x ∈ (n :: nss).map wdI from hx) y (show y ∈ (n :: nss).map wdI from hy)
  · obtain ⟨ns, _, rfl⟩ := List.mem_map.mp (show x ∈ (n :: nss).map wdI from hx)
    intro z
    cases z
  · obtain ⟨ms, ⟨l, rfl, h3⟩, as', r2⟩ := each_at e1 (show items[i]? = some v by simpa using hv)
    rw [minD_wd] at rv
    have eq := alike_unique _ _ _ _ _ (alike_wd _ _) (PyProof.Rows.Reads.keeps hk r2) rv
    have em := wdI_inj eq
    subst em
    exact ⟨.ref l, H, I.kept (t' := tk) hk, rfl, q l h3⟩
def gMinW : List PyData → Option Res
  | [.list ds] => (wdsOf ds).bind fun nss => match nss with
    | [] => none
    | n :: ns => some (.fz (wd (minW n ns)))
  | _ => none
theorem c_minW {K : PySem.W.Frag} : OpC K (rMinW K) gMinW := fun B H0 Hf H vs rs c Q e1 e2 q hg k => by
  unfold gMinW at hg
  split at hg
  · rename_i xs h
    obtain ⟨nss, h1, h2⟩ := Option.bind_eq_some_iff.mp hg
    split at h2
    · cases h2
    · rename_i n ns
      cases h2
      obtain ⟨v, r, rfl, rfl, hr, q1⟩ := q.one h
      obtain ⟨p0, ws, rfl, s1, d1⟩ := q1.lst e1 hr
      rw [wdsOf_some h1] at d1
      refine ⟨p0, ws, n, ns, Hf, rfl, s1, e1, tups_of d1, fun l hl => ?_⟩
      exact k _ Hf H (Gr.refl e1) (Dp.tup hl (dpa_ints _))
  · cases hg
end DL
namespace K04
open PySem PySem.Spec PyProof.Rows L2 DL
/-! ### the text -/
def topS (i : Nat) : Stmt := PySem.Challenge.pw_strandsplaited_k04_rows.main.body.getD i (.Pass ⟨0, 0, 0, 0⟩)
/-! ### plain_row: slots 0 strands -/
abbrev s_plain_row : Stmt := topS 1
theorem sc_plain_row : FnScope ["strands"] ["strands"] (defScope s_plain_row) := ⟨rfl, rfl, rfl, by decide +kernel, rfl, by decide +kernel, by decide +kernel⟩
def g_plain_row : FS := (gRet (fRgT (rg1 (aCons (fVar 0) aNil))))
theorem ok_plain_row {P : Program} {w : World} {K : PySem.W.Frag} {mg : Str → Option Value} {base : Heap} {f : Addr} {fd : FuncData} {k : Nat} (F : Fun K "plain_row" "plain_row" s_plain_row f fd) (m_tuple : mg "tuple" = none) (m_range : mg "range" = none) :
    FnOk P w K mg base CX0 (k + 1) f fd ["strands"] (spD K 1 (runD 1 (g_plain_row))) :=
  have nd := (sc_plain_row).nd
  def_ok F sc_plain_row fun cdv A outer s H E hr =>
  (ss_one (s_ret (d_tupRg1 m_tuple m_range (d_var 0))))
/-! ### half_turn: slots 0 strands -/
abbrev s_half_turn : Stmt := topS 2
theorem sc_half_turn : FnScope ["strands"] ["strands"] (defScope s_half_turn) := ⟨rfl, rfl, rfl, by decide +kernel, rfl, by decide +kernel, by decide +kernel⟩
def g_half_turn (F_plain_row : FD) : FS := (gRet (f1 gRev (fCall F_plain_row (aCons (fVar 0) aNil))))
theorem ok_half_turn {P : Program} {w : World} {K : PySem.W.Frag} {mg : Str → Option Value} {base : Heap} {f : Addr} {fd : FuncData} {k : Nat} (F : Fun K "half_turn" "half_turn" s_half_turn f fd) {F_plain_row : FD} {f_plain_row : Addr} {fd_plain_row : FuncData} {j_plain_row : Nat} (G_plain_row : FnOk P w K mg base CX0 j_plain_row f_plain_row fd_plain_row ["strands"] (spD K 1 F_plain_row)) (l_plain_row : j_plain_row ≤ k) (m_plain_row : mg "plain_row" = some (.ref f_plain_row)) (k_plain_row : PySem.W.keepIn K (.ref f_plain_row) = true) (b_plain_row : Binds K fd_plain_row ["strands"] []) :
    FnOk P w K mg base CX0 (k + 1) f fd ["strands"] (spD K 1 (runD 1 (g_half_turn F_plain_row))) :=
  have nd := (sc_half_turn).nd
  def_ok F sc_half_turn fun cdv A outer s H E hr =>
  (ss_one (s_ret (d_rev (d_call G_plain_row (hr.mono l_plain_row) m_plain_row k_plain_row b_plain_row (a_cons (d_var 0) a_nil) (al_cons al_nil)))))
/-! ### row_of: slots 0 strands, 1 word, 2 row, 3 letter, 4 at -/
abbrev s_row_of : Stmt := topS 3
theorem sc_row_of : FnScope ["strands", "word", "row", "letter", "at"] ["strands", "word"] (defScope s_row_of) := ⟨rfl, rfl, rfl, by decide +kernel, rfl, by decide +kernel, by decide +kernel⟩
def g_row_of : FS := (gSeq (gSetO 2 (fRgL (rg1 (aCons (fVar 0) aNil))))
    (gSeq (gFor (itF (fVar 1)) (uName 3) (gSeq (gSet 4 (fC1 gAbs (aCons (fVar 3) aNil)))
    (gSwap 2 (f2 gMinus (fVar 4) (fC (.int 1))) (fVar 4) (aCons (f2 gIx (fVar 2) (fVar 4)) (aCons (f2 gIx (fVar 2) (f2 gMinus (fVar 4) (fC (.int 1)))) aNil)))))
    (gRet (fC1 gTuple (aCons (fVar 2) aNil)))))
theorem ok_row_of {P : Program} {w : World} {K : PySem.W.Frag} {mg : Str → Option Value} {base : Heap} {f : Addr} {fd : FuncData} {k : Nat} (F : Fun K "row_of" "row_of" s_row_of f fd) (m_tuple : mg "tuple" = none) (m_abs : mg "abs" = none) (m_list : mg "list" = none) (m_range : mg "range" = none) :
    FnOk P w K mg base CX0 (k + 1) f fd ["strands", "word"] (spD K 2 (runD 5 (g_row_of))) :=
  have nd := (sc_row_of).nd
  def_ok F sc_row_of fun cdv A outer s H E hr =>
  (ss_cons (s_setO 2 nd (d_listRg1 m_list m_range (d_var 0)))
    (ss_cons (s_for (i_seq (d_var 1)) (g_name 3 nd) (ss_cons (s_set 4 nd (d_blt call_abs c_abs m_abs (by decide +kernel) (a_cons (d_var 3) a_nil)))
    (ss_one (s_swap 2 nd (a_cons (d_ix (d_var 2) (d_var 4)) (a_cons (d_ix (d_var 2) (d_sub (d_var 4) d_int)) a_nil)) (d_sub (d_var 4) d_int) (d_var 4) (hp := pg_tup rfl (pgs_cons (pg_sub (pv 2) (d_sub (d_var 4) d_int) set_list) (pgs_cons (pg_sub (pv 2) (d_var 4) set_list) pgs_nil)))))))
    (ss_one (s_ret (d_ty call_tupleF c_tuple m_tuple (by decide +kernel) (a_cons (d_var 2) a_nil))))))
/-! ### crossings: slots 0 row, 1 later, 2 place, 3 strand -/
abbrev s_crossings : Stmt := topS 4
theorem sc_crossings : FnScope ["row", "later", "place", "strand"] ["row"] (defScope s_crossings) := ⟨rfl, rfl, rfl, by decide +kernel, rfl, by decide +kernel, by decide +kernel⟩
def g_crossings : FS := (gRet (fC1 gSum (aCons (fLc2 (enYR (aCons (fVar 0) aNil)) (uTp 2 (uNs [2, 3])) cYes (itF (fSl (fVar 0) (oSome (f2 gAdd (fVar 2) (fC (.int 1)))) oNone)) (uName 1) (fB (f2 gGt (fVar 3) (fVar 1))) (fC (.int 1)) [2, 3, 1] [1]) aNil)))
theorem ok_crossings {P : Program} {w : World} {K : PySem.W.Frag} {mg : Str → Option Value} {base : Heap} {f : Addr} {fd : FuncData} {k : Nat} (F : Fun K "crossings" "crossings" s_crossings f fd) (m_sum : mg "sum" = none) (m_enumerate : mg "enumerate" = none) :
    FnOk P w K mg base CX0 (k + 1) f fd ["row"] (spD K 1 (runD 4 (g_crossings))) :=
  have nd := (sc_crossings).nd
  def_ok F sc_crossings fun cdv A outer s H E hr =>
  (ss_one (s_ret (d_blt (cr_sum rfl) c_sum m_sum (by decide +kernel) (a_cons (d_lc2 (vs := [2, 3, 1]) (vs1 := [1]) [("place", 2), ("strand", 3), ("later", 1)] nd (y_enumJ m_enumerate (a_cons (d_var 0) a_nil)) (clj_tup (js := [2, 3]) (n := 2)) (by show blkC ["row", "later", "place", "strand"] (defScope s_crossings) _ _ = true; decide +kernel) (fun _ _ _ _ _ => (pg_tup (n := 2) rfl (pgs_cons (pg_name (i := 2) nd rfl (by first | exact Or.inl rfl | exact Or.inr rfl)) (pgs_cons (pg_name (i := 3) nd rfl (by first | exact Or.inl rfl | exact Or.inr rfl)) pgs_nil)))) (fun _ _ _ _ _ => ts_nil) (fun _ _ _ _ _ => (i_seq (d_sl (d_var 0) (p_some (d_add (d_var 2) d_int)) p_none))) (cli_name (j := 1)) (fun _ _ _ _ _ => (pg_name (i := 1) nd rfl (by first | exact Or.inl rfl | exact Or.inr rfl))) (fun _ _ _ _ _ => ts_one (t_cmp op_gt o_gt (d_var 3) (d_var 1) (nomark _))) (fun _ _ _ _ _ => d_int)) a_nil))))
/-! ### places_of: slots 0 row, 1 places, 2 place, 3 strand -/
abbrev s_places_of : Stmt := topS 5
theorem sc_places_of : FnScope ["row", "places", "place", "strand"] ["row"] (defScope s_places_of) := ⟨rfl, rfl, rfl, by decide +kernel, rfl, by decide +kernel, by decide +kernel⟩
def g_places_of : FS := (gSeq (gSetO 1 (fRepL (fLst (aCons (fC (.int 0)) aNil)) (fC1 gLen (aCons (fVar 0) aNil))))
    (gSeq (gFor (enT (aCons (fVar 0) aNil)) (uTup 2 (uCons (uName 2) (uCons (uName 3) uNil))) (gPut 1 (fVar 3) (fVar 2)))
    gNil))
def gq_places_of : FE := (fVar 1)
theorem ok_places_of {P : Program} {w : World} {K : PySem.W.Frag} {mg : Str → Option Value} {base : Heap} {f : Addr} {fd : FuncData} {k : Nat} (F : Fun K "places_of" "places_of" s_places_of f fd) (m_len : mg "len" = none) (m_enumerate : mg "enumerate" = none) :
    FnOk P w K mg base CX0 (k + 1) f fd ["row"] (spN K 1 (runN 4 (g_places_of) (gq_places_of))) :=
  have nd := (sc_places_of).nd
  def_okN F sc_places_of fun cdv A outer s H E hr =>
  (sn_cons (s_setO 1 nd (d_repL (d_lst (a_cons d_int a_nil)) (d_blt call_len c_len m_len (by decide +kernel) (a_cons (d_var 0) a_nil))))
    (sn_cons (s_forET (n := 2) m_enumerate (a_cons (d_var 0) a_nil) (gs_cons (g_name 2 nd) (gs_cons (g_name 3 nd) gs_nil)) (ss_one (s_put 1 (d_var 2) (d_var 3) (ps_asg (d_var 2) (pg_sub (pv 1) (d_var 3) set_list)))))
    (sn_ret (d_var 1))))
/-! ### starts: slots 0 row, 1 places, 2 letter -/
abbrev s_starts : Stmt := topS 6
theorem sc_starts : FnScope ["row", "places", "letter"] ["row"] (defScope s_starts) := ⟨rfl, rfl, rfl, by decide +kernel, rfl, by decide +kernel, by decide +kernel⟩
def g_starts (F_places_of : FD) : FS := (gSeq (gSet 1 (fCallN F_places_of (aCons (fVar 0) aNil)))
    (gRet (fLc (rg2 (aCons (fC (.int 1)) (aCons (fC1 gLen (aCons (fVar 0) aNil)) aNil))) 2 (fB (f2 gGt (f2 gIx (fVar 1) (f2 gMinus (fVar 2) (fC (.int 1)))) (f2 gIx (fVar 1) (fVar 2)))) (fVar 2) [2])))
theorem ok_starts {P : Program} {w : World} {K : PySem.W.Frag} {mg : Str → Option Value} {base : Heap} {f : Addr} {fd : FuncData} {k : Nat} (F : Fun K "starts" "starts" s_starts f fd) {F_places_of : FD} {f_places_of : Addr} {fd_places_of : FuncData} {j_places_of : Nat} (G_places_of : FnOk P w K mg base CX0 j_places_of f_places_of fd_places_of ["row"] (spN K 1 F_places_of)) (l_places_of : j_places_of ≤ k) (m_places_of : mg "places_of" = some (.ref f_places_of)) (k_places_of : PySem.W.keepIn K (.ref f_places_of) = true) (b_places_of : Binds K fd_places_of ["row"] []) (m_range : mg "range" = none) (m_len : mg "len" = none) :
    FnOk P w K mg base CX0 (k + 1) f fd ["row"] (spD K 1 (runD 3 (g_starts F_places_of))) :=
  have nd := (sc_starts).nd
  def_ok F sc_starts fun cdv A outer s H E hr =>
  (ss_cons (s_set 1 nd (d_callN G_places_of (hr.mono l_places_of) m_places_of k_places_of b_places_of (a_cons (d_var 0) a_nil) (al_cons al_nil)))
    (ss_one (s_ret (d_lc 2 "letter" nd (DI.dj (i_rg2 m_range (a_cons d_int (a_cons (d_blt call_len c_len m_len (by decide +kernel) (a_cons (d_var 0) a_nil)) a_nil)))) (by show blkC ["row", "places", "letter"] (defScope s_starts) _ _ = true; decide +kernel) (fun _ _ _ _ _ => pg_name (i := 2) nd rfl (Or.inl rfl)) (fun _ _ _ _ _ => ts_one (t_cmp op_gt o_gt (d_ix (d_var 1) (d_sub (d_var 2) d_int)) (d_ix (d_var 1) (d_var 2)) (nomark _))) (fun _ _ _ _ _ => (d_var 2))))))
/-! ### ends: slots 0 row, 1 letter -/
abbrev s_ends : Stmt := topS 7
theorem sc_ends : FnScope ["row", "letter"] ["row"] (defScope s_ends) := ⟨rfl, rfl, rfl, by decide +kernel, rfl, by decide +kernel, by decide +kernel⟩
def g_ends : FS := (gRet (fLc (rg2 (aCons (fC (.int 1)) (aCons (fC1 gLen (aCons (fVar 0) aNil)) aNil))) 1 (fB (f2 gGt (f2 gIx (fVar 0) (f2 gMinus (fVar 1) (fC (.int 1)))) (f2 gIx (fVar 0) (fVar 1)))) (fVar 1) [1]))
theorem ok_ends {P : Program} {w : World} {K : PySem.W.Frag} {mg : Str → Option Value} {base : Heap} {f : Addr} {fd : FuncData} {k : Nat} (F : Fun K "ends" "ends" s_ends f fd) (m_range : mg "range" = none) (m_len : mg "len" = none) :
    FnOk P w K mg base CX0 (k + 1) f fd ["row"] (spD K 1 (runD 2 (g_ends))) :=
  have nd := (sc_ends).nd
  def_ok F sc_ends fun cdv A outer s H E hr =>
  (ss_one (s_ret (d_lc 1 "letter" nd (DI.dj (i_rg2 m_range (a_cons d_int (a_cons (d_blt call_len c_len m_len (by decide +kernel) (a_cons (d_var 0) a_nil)) a_nil)))) (by show blkC ["row", "letter"] (defScope s_ends) _ _ = true; decide +kernel) (fun _ _ _ _ _ => pg_name (i := 1) nd rfl (Or.inl rfl)) (fun _ _ _ _ _ => ts_one (t_cmp op_gt o_gt (d_ix (d_var 0) (d_sub (d_var 1) d_int)) (d_ix (d_var 0) (d_var 1)) (nomark _))) (fun _ _ _ _ _ => (d_var 1)))))
/-! ### followed: slots 0 row, 1 other, 2 place -/
abbrev s_followed : Stmt := topS 8
theorem sc_followed : FnScope ["row", "other", "place"] ["row", "other"] (defScope s_followed) := ⟨rfl, rfl, rfl, by decide +kernel, rfl, by decide +kernel, by decide +kernel⟩
def g_followed : FS := (gRet (fC1 gTuple (aCons (fLc (itR (fVar 1)) 2 cYes (f2 gIx (fVar 0) (fVar 2)) [2]) aNil)))
theorem ok_followed {P : Program} {w : World} {K : PySem.W.Frag} {mg : Str → Option Value} {base : Heap} {f : Addr} {fd : FuncData} {k : Nat} (F : Fun K "followed" "followed" s_followed f fd) (m_tuple : mg "tuple" = none) :
    FnOk P w K mg base CX0 (k + 1) f fd ["row", "other"] (spD K 2 (runD 3 (g_followed))) :=
  have nd := (sc_followed).nd
  def_ok F sc_followed fun cdv A outer s H E hr =>
  (ss_one (s_ret (d_ty call_tupleF c_tuple m_tuple (by decide +kernel) (a_cons (d_lc 2 "place" nd (j_seq (d_var 1)) (by show blkC ["row", "other", "place"] (defScope s_followed) _ _ = true; decide +kernel) (fun _ _ _ _ _ => pg_name (i := 2) nd rfl (Or.inl rfl)) (fun _ _ _ _ _ => ts_nil) (fun _ _ _ _ _ => (d_ix (d_var 0) (d_var 2)))) a_nil))))
/-! ### _law_mixed: slots 0 cell, 1 turn, 2 value, 3 first, 4 second, 5 third -/
abbrev s__law_mixed : Stmt := topS 10
theorem sc__law_mixed : FnScope ["cell", "turn", "value", "first", "second", "third"] ["cell", "turn"] (defScope s__law_mixed) := ⟨rfl, rfl, rfl, by decide +kernel, rfl, by decide +kernel, by decide +kernel⟩
def g__law_mixed : FS := (gSeq (gSet 2 (fC1 gInt (aCons (fVar 0) aNil)))
    (gSeq (gIf (fB (f2 gGe (fVar 2) (f2 gPow (fC (.int 10)) (fC (.int 18))))) (gRet (fVar 2)) gNil)
    (gSeq (gSet 3 (f2 gMod (f2 gAdd (f2 gMul (f2 gMod (fVar 2) (fC (.int 1000003))) (fC (.int 48271))) (f2 gMul (fC (.int 69621)) (f2 gAdd (fVar 1) (fC (.int 1))))) (fC (.int 2147483647))))
    (gSeq (gSet 4 (f2 gMod (f2 gAdd (f2 gMul (fVar 3) (fC (.int 48271))) (f2 gMod (fVar 2) (fC (.int 999983)))) (fC (.int 2147483647))))
    (gSeq (gSet 5 (f2 gMod (f2 gAdd (f2 gMul (fVar 4) (fC (.int 69621))) (fVar 3)) (fC (.int 2147483647))))
    (gRet (f2 gAdd (f2 gAdd (fVar 3) (f2 gMul (fC (.int 2147483647)) (fVar 4))) (f2 gMul (fC (.int 4611686014132420609)) (fVar 5)))))))))
theorem ok__law_mixed {P : Program} {w : World} {K : PySem.W.Frag} {mg : Str → Option Value} {base : Heap} {f : Addr} {fd : FuncData} {k : Nat} (F : Fun K "_law_mixed" "_law_mixed" s__law_mixed f fd) (m_int : mg "int" = none) :
    FnOk P w K mg base CX0 (k + 1) f fd ["cell", "turn"] (spD K 2 (runD 6 (g__law_mixed))) :=
  have nd := (sc__law_mixed).nd
  def_ok F sc__law_mixed fun cdv A outer s H E hr =>
  (ss_cons (s_set 2 nd (d_ty call_int1 c_int m_int (by decide +kernel) (a_cons (d_var 0) a_nil)))
    (ss_cons (s_if (t_cmp op_ge o_ge (d_var 2) (d_pow d_int d_int) (nomark _)) (ss_one (s_ret (d_var 2))) ss_nil)
    (ss_cons (s_set 3 nd (d_mod (d_add (d_mul (d_mod (d_var 2) d_int) d_int) (d_mul d_int (d_add (d_var 1) d_int))) d_int))
    (ss_cons (s_set 4 nd (d_mod (d_add (d_mul (d_var 3) d_int) (d_mod (d_var 2) d_int)) d_int))
    (ss_cons (s_set 5 nd (d_mod (d_add (d_mul (d_var 4) d_int) (d_var 3)) d_int))
    (ss_one (s_ret (d_add (d_add (d_var 3) (d_mul d_int (d_var 4))) (d_mul d_int (d_var 5))))))))))
/-! ### _law_word: slots 0 value, 1 strands, 2 most, 3 word, 4 left, 5 k, 6 digit -/
abbrev s__law_word : Stmt := topS 11
theorem sc__law_word : FnScope ["value", "strands", "most", "word", "left", "k", "digit"] ["value", "strands", "most"] (defScope s__law_word) := ⟨rfl, rfl, rfl, by decide +kernel, rfl, by decide +kernel, by decide +kernel⟩
def g__law_word : FS := (gSeq (gSetO 3 (fLst aNil))
    (gSeq (gSet 4 (f2 gDiv (fVar 0) (f2 gAdd (fVar 2) (fC (.int 1)))))
    (gSeq (gFor (rg1 (aCons (f2 gMod (fVar 0) (f2 gAdd (fVar 2) (fC (.int 1)))) aNil)) (uName 5) (gSeq (gIf (fB (f2 gEq (fVar 4) (fC (.int 0)))) (gSet 4 (f2 gAdd (fVar 0) (f2 gMul (fC (.int 7919)) (f2 gAdd (fVar 5) (fC (.int 1)))))) gNil)
    (gSeq (gSet 6 (f2 gMod (fVar 4) (f2 gMinus (f2 gMul (fC (.int 2)) (fVar 1)) (fC (.int 2)))))
    (gSeq (gSet 4 (f2 gDiv (fVar 4) (f2 gMinus (f2 gMul (fC (.int 2)) (fVar 1)) (fC (.int 2)))))
    (gApp 3 (f2 gIx (fLst (aCons (f2 gAdd (fVar 6) (fC (.int 1))) (aCons (f2 gMinus (f2 gMinus (fVar 1) (fC (.int 2))) (fVar 6)) aNil))) (fC1 gInt (aCons (f2 gGe (fVar 6) (f2 gMinus (fVar 1) (fC (.int 1)))) aNil))))))))
    (gRet (fC1 gTuple (aCons (fVar 3) aNil))))))
theorem ok__law_word {P : Program} {w : World} {K : PySem.W.Frag} {mg : Str → Option Value} {base : Heap} {f : Addr} {fd : FuncData} {k : Nat} (F : Fun K "_law_word" "_law_word" s__law_word f fd) (m_tuple : mg "tuple" = none) (m_range : mg "range" = none) (m_int : mg "int" = none) :
    FnOk P w K mg base CX0 (k + 1) f fd ["value", "strands", "most"] (spD K 3 (runD 7 (g__law_word))) :=
  have nd := (sc__law_word).nd
  def_ok F sc__law_word fun cdv A outer s H E hr =>
  (ss_cons (s_setO 3 nd (d_lst a_nil))
    (ss_cons (s_set 4 nd (d_div (d_var 0) (d_add (d_var 2) d_int)))
    (ss_cons (s_for (i_rg1 m_range (a_cons (d_mod (d_var 0) (d_add (d_var 2) d_int)) a_nil)) (g_name 5 nd) (ss_cons (s_if (t_cmp (op_eqD hr.units) o_eq (d_var 4) d_int (nomark _)) (ss_one (s_set 4 nd (d_add (d_var 0) (d_mul d_int (d_add (d_var 5) d_int))))) ss_nil)
    (ss_cons (s_set 6 nd (d_mod (d_var 4) (d_sub (d_mul d_int (d_var 1)) d_int)))
    (ss_cons (s_set 4 nd (d_div (d_var 4) (d_sub (d_mul d_int (d_var 1)) d_int)))
    (ss_one (s_app 3 (d_ix (d_lst (a_cons (d_add (d_var 6) d_int) (a_cons (d_sub (d_sub (d_var 1) d_int) (d_var 6)) a_nil))) (d_ty call_int1 c_int m_int (by decide +kernel) (a_cons (d_cmp op_ge o_ge (d_var 6) (d_sub (d_var 1) d_int) (nomark _)) a_nil))) (ps_expr (pe_bm PySem.F.plainAttrs_list PySem.F.slot_list_append PySem.F.type_list_append mt_append (pv 3) (pa_cons (d_ix (d_lst (a_cons (d_add (d_var 6) d_int) (a_cons (d_sub (d_sub (d_var 1) d_int) (d_var 6)) a_nil))) (d_ty call_int1 c_int m_int (by decide +kernel) (a_cons (d_cmp op_ge o_ge (d_var 6) (d_sub (d_var 1) d_int) (nomark _)) a_nil))) pa_nil)))))))))
    (ss_one (s_ret (d_ty call_tupleF c_tuple m_tuple (by decide +kernel) (a_cons (d_var 3) a_nil)))))))
/-! ### _law_row: slots 0 strands, 1 word, 2 row, 3 letter, 4 k -/
abbrev s__law_row : Stmt := topS 12
theorem sc__law_row : FnScope ["strands", "word", "row", "letter", "k"] ["strands", "word"] (defScope s__law_row) := ⟨rfl, rfl, rfl, by decide +kernel, rfl, by decide +kernel, by decide +kernel⟩
def g__law_row : FS := (gSeq (gSetO 2 (fLc (rg1 (aCons (fVar 0) aNil)) 4 cYes (fVar 4) [4]))
    (gSeq (gFor (itF (fVar 1)) (uName 3) (gSeq (gSet 4 (fC1 gAbs (aCons (fVar 3) aNil)))
    (gSwap 2 (f2 gMinus (fVar 4) (fC (.int 1))) (fVar 4) (aCons (f2 gIx (fVar 2) (fVar 4)) (aCons (f2 gIx (fVar 2) (f2 gMinus (fVar 4) (fC (.int 1)))) aNil)))))
    (gRet (fC1 gTuple (aCons (fVar 2) aNil)))))
theorem ok__law_row {P : Program} {w : World} {K : PySem.W.Frag} {mg : Str → Option Value} {base : Heap} {f : Addr} {fd : FuncData} {k : Nat} (F : Fun K "_law_row" "_law_row" s__law_row f fd) (m_tuple : mg "tuple" = none) (m_abs : mg "abs" = none) (m_range : mg "range" = none) :
    FnOk P w K mg base CX0 (k + 1) f fd ["strands", "word"] (spD K 2 (runD 5 (g__law_row))) :=
  have nd := (sc__law_row).nd
  def_ok F sc__law_row fun cdv A outer s H E hr =>
  (ss_cons (s_setLcO 2 4 "k" nd (DI.dj (i_rg1 m_range (a_cons (d_var 0) a_nil))) (by show blkC ["strands", "word", "row", "letter", "k"] (defScope s__law_row) _ _ = true; decide +kernel) (fun _ _ _ _ _ => pg_name (i := 4) nd rfl (Or.inl rfl)) (fun _ _ _ _ _ => ts_nil) (fun _ _ _ _ _ => (d_var 4)))
    (ss_cons (s_for (i_seq (d_var 1)) (g_name 3 nd) (ss_cons (s_set 4 nd (d_blt call_abs c_abs m_abs (by decide +kernel) (a_cons (d_var 3) a_nil)))
    (ss_one (s_swap 2 nd (a_cons (d_ix (d_var 2) (d_var 4)) (a_cons (d_ix (d_var 2) (d_sub (d_var 4) d_int)) a_nil)) (d_sub (d_var 4) d_int) (d_var 4) (hp := pg_tup rfl (pgs_cons (pg_sub (pv 2) (d_sub (d_var 4) d_int) set_list) (pgs_cons (pg_sub (pv 2) (d_var 4) set_list) pgs_nil)))))))
    (ss_one (s_ret (d_ty call_tupleF c_tuple m_tuple (by decide +kernel) (a_cons (d_var 2) a_nil))))))
/-! ### _law_ends: slots 0 row, 1 k -/
abbrev s__law_ends : Stmt := topS 13
theorem sc__law_ends : FnScope ["row", "k"] ["row"] (defScope s__law_ends) := ⟨rfl, rfl, rfl, by decide +kernel, rfl, by decide +kernel, by decide +kernel⟩
def g__law_ends : FS := (gRet (fLc (rg2 (aCons (fC (.int 1)) (aCons (fC1 gLen (aCons (fVar 0) aNil)) aNil))) 1 (fB (f2 gGt (f2 gIx (fVar 0) (f2 gMinus (fVar 1) (fC (.int 1)))) (f2 gIx (fVar 0) (fVar 1)))) (fVar 1) [1]))
theorem ok__law_ends {P : Program} {w : World} {K : PySem.W.Frag} {mg : Str → Option Value} {base : Heap} {f : Addr} {fd : FuncData} {k : Nat} (F : Fun K "_law_ends" "_law_ends" s__law_ends f fd) (m_range : mg "range" = none) (m_len : mg "len" = none) :
    FnOk P w K mg base CX0 (k + 1) f fd ["row"] (spD K 1 (runD 2 (g__law_ends))) :=
  have nd := (sc__law_ends).nd
  def_ok F sc__law_ends fun cdv A outer s H E hr =>
  (ss_one (s_ret (d_lc 1 "k" nd (DI.dj (i_rg2 m_range (a_cons d_int (a_cons (d_blt call_len c_len m_len (by decide +kernel) (a_cons (d_var 0) a_nil)) a_nil)))) (by show blkC ["row", "k"] (defScope s__law_ends) _ _ = true; decide +kernel) (fun _ _ _ _ _ => pg_name (i := 1) nd rfl (Or.inl rfl)) (fun _ _ _ _ _ => ts_one (t_cmp op_gt o_gt (d_ix (d_var 0) (d_sub (d_var 1) d_int)) (d_ix (d_var 0) (d_var 1)) (nomark _))) (fun _ _ _ _ _ => (d_var 1)))))
/-! ### _law_starts: slots 0 row, 1 k -/
abbrev s__law_starts : Stmt := topS 14
theorem sc__law_starts : FnScope ["row", "k"] ["row"] (defScope s__law_starts) := ⟨rfl, rfl, rfl, by decide +kernel, rfl, by decide +kernel, by decide +kernel⟩
def g__law_starts : FS := (gRet (fLc (rg2 (aCons (fC (.int 1)) (aCons (fC1 gLen (aCons (fVar 0) aNil)) aNil))) 1 (fB (f2 gLt (fTix (fVar 0) (fVar 1)) (fTix (fVar 0) (f2 gMinus (fVar 1) (fC (.int 1)))))) (fVar 1) [1]))
theorem ok__law_starts {P : Program} {w : World} {K : PySem.W.Frag} {mg : Str → Option Value} {base : Heap} {f : Addr} {fd : FuncData} {k : Nat} (F : Fun K "_law_starts" "_law_starts" s__law_starts f fd) (kt : KTup K) (m_range : mg "range" = none) (m_len : mg "len" = none) :
    FnOk P w K mg base CX0 (k + 1) f fd ["row"] (spD K 1 (runD 2 (g__law_starts))) :=
  have nd := (sc__law_starts).nd
  def_ok F sc__law_starts fun cdv A outer s H E hr =>
  (ss_one (s_ret (d_lc 1 "k" nd (DI.dj (i_rg2 m_range (a_cons d_int (a_cons (d_blt call_len c_len m_len (by decide +kernel) (a_cons (d_var 0) a_nil)) a_nil)))) (by show blkC ["row", "k"] (defScope s__law_starts) _ _ = true; decide +kernel) (fun _ _ _ _ _ => pg_name (i := 1) nd rfl (Or.inl rfl)) (fun _ _ _ _ _ => ts_one (t_cmp op_lt o_lt (d_tix kt (d_var 0) (d_var 1)) (d_tix kt (d_var 0) (d_sub (d_var 1) d_int)) (nomark _))) (fun _ _ _ _ _ => (d_var 1)))))
/-! ### _law_rest: slots 0 row, 1 letter, 2 item -/
abbrev s__law_rest : Stmt := topS 15
theorem sc__law_rest : FnScope ["row", "letter", "item"] ["row", "letter"] (defScope s__law_rest) := ⟨rfl, rfl, rfl, by decide +kernel, rfl, by decide +kernel, by decide +kernel⟩
def g__law_rest : FS := (gRet (fC1 gTuple (aCons (fLc (itR (fVar 0)) 2 cYes (fDg2 (fVar 1) (f2 gMinus (fVar 1) (fC (.int 1))) (f2 gMinus (fVar 1) (fC (.int 1))) (fVar 1) (fVar 2) (fVar 2)) [2]) aNil)))
theorem ok__law_rest {P : Program} {w : World} {K : PySem.W.Frag} {mg : Str → Option Value} {base : Heap} {f : Addr} {fd : FuncData} {k : Nat} (F : Fun K "_law_rest" "_law_rest" s__law_rest f fd) (m_tuple : mg "tuple" = none) :
    FnOk P w K mg base CX0 (k + 1) f fd ["row", "letter"] (spD K 2 (runD 3 (g__law_rest))) :=
  have nd := (sc__law_rest).nd
  def_ok F sc__law_rest fun cdv A outer s H E hr =>
  (ss_one (s_ret (d_ty call_tupleF c_tuple m_tuple (by decide +kernel) (a_cons (d_lc 2 "item" nd (j_seq (d_var 0)) (by show blkC ["row", "letter", "item"] (defScope s__law_rest) _ _ = true; decide +kernel) (fun _ _ _ _ _ => pg_name (i := 2) nd rfl (Or.inl rfl)) (fun _ _ _ _ _ => ts_nil) (fun _ _ _ _ _ => (d_dg2 hr (d_var 1) (d_sub (d_var 1) d_int) (d_sub (d_var 1) d_int) (d_var 1) (d_var 2) (d_var 2)))) a_nil))))
/-! ### _law_drawn_row: slots 0 value, 1 strands, 2 rest, 3 row, 4 spare, 5 k -/
abbrev s__law_drawn_row : Stmt := topS 16
theorem sc__law_drawn_row : FnScope ["value", "strands", "rest", "row", "spare", "k"] ["value", "strands"] (defScope s__law_drawn_row) := ⟨rfl, rfl, rfl, by decide +kernel, rfl, by decide +kernel, by decide +kernel⟩
def g__law_drawn_row : FS := (gSeq (gSetO 2 (fLc (rg1 (aCons (fVar 1) aNil)) 5 cYes (fVar 5) [5]))
    (gSeq (gSetO 3 (fLst aNil))
    (gSeq (gFor (rg1 (aCons (fVar 1) aNil)) (uName 4) (gSeq (gAppPop 3 2 (f2 gMod (fVar 0) (fC1 gLen (aCons (fVar 2) aNil))))
    (gSet 0 (f2 gDiv (fVar 0) (f2 gAdd (f2 gMinus (fVar 1) (fC1 gLen (aCons (fVar 3) aNil))) (fC (.int 1)))))))
    (gRet (fC1 gTuple (aCons (fVar 3) aNil))))))
theorem ok__law_drawn_row {P : Program} {w : World} {K : PySem.W.Frag} {mg : Str → Option Value} {base : Heap} {f : Addr} {fd : FuncData} {k : Nat} (F : Fun K "_law_drawn_row" "_law_drawn_row" s__law_drawn_row f fd) (m_tuple : mg "tuple" = none) (m_range : mg "range" = none) (m_len : mg "len" = none) :
    FnOk P w K mg base CX0 (k + 1) f fd ["value", "strands"] (spD K 2 (runD 6 (g__law_drawn_row))) :=
  have nd := (sc__law_drawn_row).nd
  def_ok F sc__law_drawn_row fun cdv A outer s H E hr =>
  (ss_cons (s_setLcO 2 5 "k" nd (DI.dj (i_rg1 m_range (a_cons (d_var 1) a_nil))) (by show blkC ["value", "strands", "rest", "row", "spare", "k"] (defScope s__law_drawn_row) _ _ = true; decide +kernel) (fun _ _ _ _ _ => pg_name (i := 5) nd rfl (Or.inl rfl)) (fun _ _ _ _ _ => ts_nil) (fun _ _ _ _ _ => (d_var 5)))
    (ss_cons (s_setO 3 nd (d_lst a_nil))
    (ss_cons (s_for (i_rg1 m_range (a_cons (d_var 1) a_nil)) (g_name 4 nd) (ss_cons (s_apppop 3 2 (by decide) (d_mod (d_var 0) (d_blt call_len c_len m_len (by decide +kernel) (a_cons (d_var 2) a_nil))) (ps_expr (pe_bm PySem.F.plainAttrs_list PySem.F.slot_list_append PySem.F.type_list_append mt_append (pv 3) (pa_cons (pe_bm PySem.F.plainAttrs_list PySem.F.slot_list_pop PySem.F.type_list_pop mt_popAt (pv 2) (pa_cons (d_mod (d_var 0) (d_blt call_len c_len m_len (by decide +kernel) (a_cons (d_var 2) a_nil))) pa_nil)) pa_nil))))
    (ss_one (s_set 0 nd (d_div (d_var 0) (d_add (d_sub (d_var 1) (d_blt call_len c_len m_len (by decide +kernel) (a_cons (d_var 3) a_nil))) d_int))))))
    (ss_one (s_ret (d_ty call_tupleF c_tuple m_tuple (by decide +kernel) (a_cons (d_var 3) a_nil)))))))
/-! ### _law_row_word: slots 0 row, 1 word, 2 letter -/
abbrev s__law_row_word : Stmt := topS 17
theorem sc__law_row_word : FnScope ["row", "word", "letter"] ["row"] (defScope s__law_row_word) := ⟨rfl, rfl, rfl, by decide +kernel, rfl, by decide +kernel, by decide +kernel⟩
def g__law_row_word (F__law_starts : FD) (F__law_rest : FD) (mu__law_row_word_1 : Rho → Nat) : FS := (gSeq (gSetO 1 (fLst aNil))
    (gSeq (gWh mu__law_row_word_1 (fB (f2 gNe (fCall F__law_starts (aCons (fVar 0) aNil)) (fLst aNil))) (gSeq (gSet 2 (f2 gIx (fCall F__law_starts (aCons (fVar 0) aNil)) (fC (.int 0))))
    (gSeq (gApp 1 (fVar 2))
    (gSet 0 (fCall F__law_rest (aCons (fVar 0) (aCons (fVar 2) aNil)))))))
    (gRet (fC1 gTuple (aCons (fVar 1) aNil)))))
theorem ok__law_row_word {P : Program} {w : World} {K : PySem.W.Frag} {mg : Str → Option Value} {base : Heap} {f : Addr} {fd : FuncData} {k : Nat} (F : Fun K "_law_row_word" "_law_row_word" s__law_row_word f fd) {F__law_starts : FD} {f__law_starts : Addr} {fd__law_starts : FuncData} {j__law_starts : Nat} (G__law_starts : FnOk P w K mg base CX0 j__law_starts f__law_starts fd__law_starts ["row"] (spD K 1 F__law_starts)) (l__law_starts : j__law_starts ≤ k) (m__law_starts : mg "_law_starts" = some (.ref f__law_starts)) (k__law_starts : PySem.W.keepIn K (.ref f__law_starts) = true) (b__law_starts : Binds K fd__law_starts ["row"] []) {F__law_rest : FD} {f__law_rest : Addr} {fd__law_rest : FuncData} {j__law_rest : Nat} (G__law_rest : FnOk P w K mg base CX0 j__law_rest f__law_rest fd__law_rest ["row", "letter"] (spD K 2 F__law_rest)) (l__law_rest : j__law_rest ≤ k) (m__law_rest : mg "_law_rest" = some (.ref f__law_rest)) (k__law_rest : PySem.W.keepIn K (.ref f__law_rest) = true) (b__law_rest : Binds K fd__law_rest ["row", "letter"] []) (m_tuple : mg "tuple" = none) (mu__law_row_word_1 : Rho → Nat) :
    FnOk P w K mg base CX0 (k + 1) f fd ["row"] (spD K 1 (runD 3 (g__law_row_word F__law_starts F__law_rest mu__law_row_word_1))) :=
  have nd := (sc__law_row_word).nd
  def_ok F sc__law_row_word fun cdv A outer s H E hr =>
  (ss_cons (s_setO 1 nd (d_lst a_nil))
    (ss_cons (s_while mu__law_row_word_1 (t_cmp (op_neD hr.units) o_ne (d_call G__law_starts (hr.mono l__law_starts) m__law_starts k__law_starts b__law_starts (a_cons (d_var 0) a_nil) (al_cons al_nil)) (d_lst a_nil) (nomark _)) (ss_cons (s_set 2 nd (d_ix (d_call G__law_starts (hr.mono l__law_starts) m__law_starts k__law_starts b__law_starts (a_cons (d_var 0) a_nil) (al_cons al_nil)) d_int))
    (ss_cons (s_app 1 (d_var 2) (ps_expr (pe_bm PySem.F.plainAttrs_list PySem.F.slot_list_append PySem.F.type_list_append mt_append (pv 1) (pa_cons (d_var 2) pa_nil))))
    (ss_one (s_set 0 nd (d_call G__law_rest (hr.mono l__law_rest) m__law_rest k__law_rest b__law_rest (a_cons (d_var 0) (a_cons (d_var 2) a_nil)) (al_cons (al_cons al_nil))))))))
    (ss_one (s_ret (d_ty call_tupleF c_tuple m_tuple (by decide +kernel) (a_cons (d_var 1) a_nil))))))
/-! ### _law_same: slots 0 told, 1 due, 2 k -/
abbrev s__law_same : Stmt := topS 18
theorem sc__law_same : FnScope ["told", "due", "k"] ["told", "due"] (defScope s__law_same) := ⟨rfl, rfl, rfl, by decide +kernel, rfl, by decide +kernel, by decide +kernel⟩
def g__law_same (F__law_same : FD) : FS := (gSeq (gIf (tOrF (fTru (f1 (gIsi "tuple") (fVar 1))) (fTru (f1 (gIsi "list") (fVar 1)))) (gSeq (gIf (tOrF (fB (f2 gNe (f1 (gIsi "tuple") (fVar 1)) (f1 (gIsi "tuple") (fVar 0)))) (fB (f2 gNe (f1 (gIsi "list") (fVar 1)) (f1 (gIsi "list") (fVar 0))))) (gRet (fC (.bool false))) gNil)
    (gSeq (gIf (fB (f2 gNe (fC1 gLen (aCons (fVar 0) aNil)) (fC1 gLen (aCons (fVar 1) aNil)))) (gRet (fC (.bool false))) gNil)
    (gRet (f2 gEq (fLc (rg1 (aCons (fC1 gLen (aCons (fVar 1) aNil)) aNil)) 2 (tNotF (fTru (fCall F__law_same (aCons (f2 gIx (fVar 0) (fVar 2)) (aCons (f2 gIx (fVar 1) (fVar 2)) aNil))))) (fVar 2) [2]) (fLst aNil))))) gNil)
    (gSeq (gIf (fTru (f1 (gIsi "int") (fVar 1))) (gRet (fAnd (f1 (gIsi "int") (fVar 0)) (fAnd (fNot (f1 (gIsi "bool") (fVar 0))) (f2 gEq (fVar 0) (fVar 1))))) gNil)
    (gRet (f2 gEq (fVar 0) (fVar 1)))))
theorem ok__law_same {P : Program} {w : World} {K : PySem.W.Frag} {mg : Str → Option Value} {base : Heap} {f : Addr} {fd : FuncData} {k : Nat} (F : Fun K "_law_same" "_law_same" s__law_same f fd) {F__law_same : FD} {f__law_same : Addr} {fd__law_same : FuncData} {j__law_same : Nat} (G__law_same : FnOk P w K mg base CX0 j__law_same f__law_same fd__law_same ["told", "due"] (spD K 2 F__law_same)) (l__law_same : j__law_same ≤ k) (m__law_same : mg "_law_same" = some (.ref f__law_same)) (k__law_same : PySem.W.keepIn K (.ref f__law_same) = true) (b__law_same : Binds K fd__law_same ["told", "due"] []) (m_isinstance : mg "isinstance" = none) (m_int : mg "int" = none) (m_bool : mg "bool" = none) (m_tuple : mg "tuple" = none) (m_list : mg "list" = none) (m_range : mg "range" = none) (m_len : mg "len" = none) :
    FnOk P w K mg base CX0 (k + 1) f fd ["told", "due"] (spD K 2 (runD 3 (g__law_same F__law_same))) :=
  have nd := (sc__law_same).nd
  def_ok F sc__law_same fun cdv A outer s H E hr =>
  (ss_cons (s_if (t_bool (w_or (t_tru (d_isi (n := "tuple") (d_var 1) m_isinstance m_tuple (by decide +kernel) (by decide +kernel))) (w_or1 (t_tru (d_isi (n := "list") (d_var 1) m_isinstance m_list (by decide +kernel) (by decide +kernel)))))) (ss_cons (s_if (t_bool (w_or (t_cmp (op_neD hr.units) o_ne (d_isi (n := "tuple") (d_var 1) m_isinstance m_tuple (by decide +kernel) (by decide +kernel)) (d_isi (n := "tuple") (d_var 0) m_isinstance m_tuple (by decide +kernel) (by decide +kernel)) (nomark _)) (w_or1 (t_cmp (op_neD hr.units) o_ne (d_isi (n := "list") (d_var 1) m_isinstance m_list (by decide +kernel) (by decide +kernel)) (d_isi (n := "list") (d_var 0) m_isinstance m_list (by decide +kernel) (by decide +kernel)) (nomark _))))) (ss_one (s_ret d_bl)) ss_nil)
    (ss_cons (s_if (t_cmp (op_neD hr.units) o_ne (d_blt call_len c_len m_len (by decide +kernel) (a_cons (d_var 0) a_nil)) (d_blt call_len c_len m_len (by decide +kernel) (a_cons (d_var 1) a_nil)) (nomark _)) (ss_one (s_ret d_bl)) ss_nil)
    (ss_one (s_ret (d_cmp (op_eqD hr.units) o_eq (d_lc 2 "k" nd (DI.dj (i_rg1 m_range (a_cons (d_blt call_len c_len m_len (by decide +kernel) (a_cons (d_var 1) a_nil)) a_nil))) (by show blkC ["told", "due", "k"] (defScope s__law_same) _ _ = true; decide +kernel) (fun _ _ _ _ _ => pg_name (i := 2) nd rfl (Or.inl rfl)) (fun _ _ _ _ _ => ts_one (t_not (t_tru (d_call G__law_same (hr.mono l__law_same) m__law_same k__law_same b__law_same (a_cons (d_ix (d_var 0) (d_var 2)) (a_cons (d_ix (d_var 1) (d_var 2)) a_nil)) (al_cons (al_cons al_nil)))))) (fun _ _ _ _ _ => (d_var 2))) (d_lst a_nil) (nomark _)))))) ss_nil)
    (ss_cons (s_if (t_tru (d_isi (n := "int") (d_var 1) m_isinstance m_int (by decide +kernel) (by decide +kernel))) (ss_one (s_ret (d_and (d_isi (n := "int") (d_var 0) m_isinstance m_int (by decide +kernel) (by decide +kernel)) (d_and (d_not (d_isi (n := "bool") (d_var 0) m_isinstance m_bool (by decide +kernel) (by decide +kernel))) (d_one (d_cmp (op_eqD hr.units) o_eq (d_var 0) (d_var 1) (nomark _))))))) ss_nil)
    (ss_one (s_ret (d_cmp (op_eqD hr.units) o_eq (d_var 0) (d_var 1) (nomark _))))))
/-! ### law: slots 0 script, 1 turn, 2 cell, 3 value, 4 strands, 5 word, 6 plain, 7 row, 8 other, 9 many, 10 j, 11 both, 12 k -/
abbrev s_law : Stmt := topS 19
theorem sc_law : FnScope ["script", "turn", "cell", "value", "strands", "word", "plain", "row", "other", "many", "j", "both", "k"] ["script"] (defScope s_law) := ⟨rfl, rfl, rfl, by decide +kernel, rfl, by decide +kernel, by decide +kernel⟩
def g_law (F__law_same : FD) (F_followed : FD) (F__law_row : FD) (F__law_row_word : FD) (F_starts : FD) (F__law_starts : FD) (F_ends : FD) (F__law_ends : FD) (F_crossings : FD) (F_row_of : FD) (F__law_drawn_row : FD) (F_half_turn : FD) (F_plain_row : FD) (F__law_word : FD) (F__law_mixed : FD) : FS := (gSeq (gFor (enF (aCons (fSl (fVar 0) oNone (oSome (fC (.int 20)))) aNil)) (uTup 2 (uCons (uName 1) (uCons (uName 2) uNil))) (gSeq (gSet 3 (fCall F__law_mixed (aCons (fVar 2) (aCons (fVar 1) aNil))))
    (gSeq (gSet 4 (f2 gAdd (fC (.int 2)) (f2 gMod (fVar 3) (fC (.int 7)))))
    (gSeq (gSet 5 (fCall F__law_word (aCons (f2 gDiv (fVar 3) (fC (.int 7))) (aCons (fVar 4) (aCons (fC (.int 20)) aNil)))))
    (gSeq (gSet 6 (fLc (rg1 (aCons (fVar 4) aNil)) 12 cYes (fVar 12) [12]))
    (gSeq (gIf (tNotF (fTru (fCall F__law_same (aCons (fCall F_plain_row (aCons (fVar 4) aNil)) (aCons (fC1 gTuple (aCons (fVar 6) aNil)) aNil))))) (gRet (fC (.bool false))) gNil)
    (gSeq (gIf (tNotF (fTru (fCall F__law_same (aCons (fCall F_half_turn (aCons (fVar 4) aNil)) (aCons (fC1 gTuple (aCons (fLc (itR (fVar 6)) 12 cYes (f2 gMinus (f2 gMinus (fVar 4) (fC (.int 1))) (fVar 12)) [12]) aNil)) aNil))))) (gRet (fC (.bool false))) gNil)
    (gSeq (gSet 7 (fCall F__law_row (aCons (fVar 4) (aCons (fVar 5) aNil))))
    (gSeq (gSet 8 (fCall F__law_drawn_row (aCons (f2 gDiv (fVar 3) (fC (.int 13))) (aCons (fVar 4) aNil))))
    (gSeq (gIf (tNotF (fTru (fCall F__law_same (aCons (fCall F_row_of (aCons (fVar 4) (aCons (fVar 5) aNil))) (aCons (fVar 7) aNil))))) (gRet (fC (.bool false))) gNil)
    (gSeq (gSet 9 (fC (.int 0)))
    (gSeq (gFor (rg1 (aCons (fVar 4) aNil)) (uName 10) (gSet 9 (f2 gAdd (fVar 9) (fC1 gLen (aCons (fLc (rg2 (aCons (f2 gAdd (fVar 10) (fC (.int 1))) (aCons (fVar 4) aNil))) 12 (fB (f2 gGt (f2 gIx (fVar 8) (fVar 10)) (f2 gIx (fVar 8) (fVar 12)))) (fVar 12) [12]) aNil)))))
    (gSeq (gIf (tNotF (fTru (fCall F__law_same (aCons (fCall F_crossings (aCons (fVar 8) aNil)) (aCons (fVar 9) aNil))))) (gRet (fC (.bool false))) gNil)
    (gSeq (gIf (tOrF (tNotF (fTru (fCall F__law_same (aCons (fCall F_starts (aCons (fVar 8) aNil)) (aCons (fCall F__law_starts (aCons (fVar 8) aNil)) aNil))))) (tNotF (fTru (fCall F__law_same (aCons (fCall F_ends (aCons (fVar 8) aNil)) (aCons (fCall F__law_ends (aCons (fVar 8) aNil)) aNil)))))) (gRet (fC (.bool false))) gNil)
    (gSeq (gSet 11 (fCall F__law_row (aCons (fVar 4) (aCons (f2 gAdd (fVar 5) (fCall F__law_row_word (aCons (fVar 8) aNil))) aNil))))
    (gIf (tNotF (fTru (fCall F__law_same (aCons (fCall F_followed (aCons (fVar 7) (aCons (fVar 8) aNil))) (aCons (fVar 11) aNil))))) (gRet (fC (.bool false))) gNil))))))))))))))))
    (gRet (fC (.bool true))))
theorem ok_law {P : Program} {w : World} {K : PySem.W.Frag} {mg : Str → Option Value} {base : Heap} {f : Addr} {fd : FuncData} {k : Nat} (F : Fun K "law" "law" s_law f fd) {F__law_same : FD} {f__law_same : Addr} {fd__law_same : FuncData} {j__law_same : Nat} (G__law_same : FnOk P w K mg base CX0 j__law_same f__law_same fd__law_same ["told", "due"] (spD K 2 F__law_same)) (l__law_same : j__law_same ≤ k) (m__law_same : mg "_law_same" = some (.ref f__law_same)) (k__law_same : PySem.W.keepIn K (.ref f__law_same) = true) (b__law_same : Binds K fd__law_same ["told", "due"] []) {F_followed : FD} {f_followed : Addr} {fd_followed : FuncData} {j_followed : Nat} (G_followed : FnOk P w K mg base CX0 j_followed f_followed fd_followed ["row", "other"] (spD K 2 F_followed)) (l_followed : j_followed ≤ k) (m_followed : mg "followed" = some (.ref f_followed)) (k_followed : PySem.W.keepIn K (.ref f_followed) = true) (b_followed : Binds K fd_followed ["row", "other"] []) {F__law_row : FD} {f__law_row : Addr} {fd__law_row : FuncData} {j__law_row : Nat} (G__law_row : FnOk P w K mg base CX0 j__law_row f__law_row fd__law_row ["strands", "word"] (spD K 2 F__law_row)) (l__law_row : j__law_row ≤ k) (m__law_row : mg "_law_row" = some (.ref f__law_row)) (k__law_row : PySem.W.keepIn K (.ref f__law_row) = true) (b__law_row : Binds K fd__law_row ["strands", "word"] []) {F__law_row_word : FD} {f__law_row_word : Addr} {fd__law_row_word : FuncData} {j__law_row_word : Nat} (G__law_row_word : FnOk P w K mg base CX0 j__law_row_word f__law_row_word fd__law_row_word ["row"] (spD K 1 F__law_row_word)) (l__law_row_word : j__law_row_word ≤ k) (m__law_row_word : mg "_law_row_word" = some (.ref f__law_row_word)) (k__law_row_word : PySem.W.keepIn K (.ref f__law_row_word) = true) (b__law_row_word : Binds K fd__law_row_word ["row"] []) {F_starts : FD} {f_starts : Addr} {fd_starts : FuncData} {j_starts : Nat} (G_starts : FnOk P w K mg base CX0 j_starts f_starts fd_starts ["row"] (spD K 1 F_starts)) (l_starts : j_starts ≤ k) (m_starts : mg "starts" = some (.ref f_starts)) (k_starts : PySem.W.keepIn K (.ref f_starts) = true) (b_starts : Binds K fd_starts ["row"] []) {F__law_starts : FD} {f__law_starts : Addr} {fd__law_starts : FuncData} {j__law_starts : Nat} (G__law_starts : FnOk P w K mg base CX0 j__law_starts f__law_starts fd__law_starts ["row"] (spD K 1 F__law_starts)) (l__law_starts : j__law_starts ≤ k) (m__law_starts : mg "_law_starts" = some (.ref f__law_starts)) (k__law_starts : PySem.W.keepIn K (.ref f__law_starts) = true) (b__law_starts : Binds K fd__law_starts ["row"] []) {F_ends : FD} {f_ends : Addr} {fd_ends : FuncData} {j_ends : Nat} (G_ends : FnOk P w K mg base CX0 j_ends f_ends fd_ends ["row"] (spD K 1 F_ends)) (l_ends : j_ends ≤ k) (m_ends : mg "ends" = some (.ref f_ends)) (k_ends : PySem.W.keepIn K (.ref f_ends) = true) (b_ends : Binds K fd_ends ["row"] []) {F__law_ends : FD} {f__law_ends : Addr} {fd__law_ends : FuncData} {j__law_ends : Nat} (G__law_ends : FnOk P w K mg base CX0 j__law_ends f__law_ends fd__law_ends ["row"] (spD K 1 F__law_ends)) (l__law_ends : j__law_ends ≤ k) (m__law_ends : mg "_law_ends" = some (.ref f__law_ends)) (k__law_ends : PySem.W.keepIn K (.ref f__law_ends) = true) (b__law_ends : Binds K fd__law_ends ["row"] []) {F_crossings : FD} {f_crossings : Addr} {fd_crossings : FuncData} {j_crossings : Nat} (G_crossings : FnOk P w K mg base CX0 j_crossings f_crossings fd_crossings ["row"] (spD K 1 F_crossings)) (l_crossings : j_crossings ≤ k) (m_crossings : mg "crossings" = some (.ref f_crossings)) (k_crossings : PySem.W.keepIn K (.ref f_crossings) = true) (b_crossings : Binds K fd_crossings ["row"] []) {F_row_of : FD} {f_row_of : Addr} {fd_row_of : FuncData} {j_row_of : Nat} (G_row_of : FnOk P w K mg base CX0 j_row_of f_row_of fd_row_of ["strands", "word"] (spD K 2 F_row_of)) (l_row_of : j_row_of ≤ k) (m_row_of : mg "row_of" = some (.ref f_row_of)) (k_row_of : PySem.W.keepIn K (.ref f_row_of) = true) (b_row_of : Binds K fd_row_of ["strands", "word"] []) {F__law_drawn_row : FD} {f__law_drawn_row : Addr} {fd__law_drawn_row : FuncData} {j__law_drawn_row : Nat} (G__law_drawn_row : FnOk P w K mg base CX0 j__law_drawn_row f__law_drawn_row fd__law_drawn_row ["value", "strands"] (spD K 2 F__law_drawn_row)) (l__law_drawn_row : j__law_drawn_row ≤ k) (m__law_drawn_row : mg "_law_drawn_row" = some (.ref f__law_drawn_row)) (k__law_drawn_row : PySem.W.keepIn K (.ref f__law_drawn_row) = true) (b__law_drawn_row : Binds K fd__law_drawn_row ["value", "strands"] []) {F_half_turn : FD} {f_half_turn : Addr} {fd_half_turn : FuncData} {j_half_turn : Nat} (G_half_turn : FnOk P w K mg base CX0 j_half_turn f_half_turn fd_half_turn ["strands"] (spD K 1 F_half_turn)) (l_half_turn : j_half_turn ≤ k) (m_half_turn : mg "half_turn" = some (.ref f_half_turn)) (k_half_turn : PySem.W.keepIn K (.ref f_half_turn) = true) (b_half_turn : Binds K fd_half_turn ["strands"] []) {F_plain_row : FD} {f_plain_row : Addr} {fd_plain_row : FuncData} {j_plain_row : Nat} (G_plain_row : FnOk P w K mg base CX0 j_plain_row f_plain_row fd_plain_row ["strands"] (spD K 1 F_plain_row)) (l_plain_row : j_plain_row ≤ k) (m_plain_row : mg "plain_row" = some (.ref f_plain_row)) (k_plain_row : PySem.W.keepIn K (.ref f_plain_row) = true) (b_plain_row : Binds K fd_plain_row ["strands"] []) {F__law_word : FD} {f__law_word : Addr} {fd__law_word : FuncData} {j__law_word : Nat} (G__law_word : FnOk P w K mg base CX0 j__law_word f__law_word fd__law_word ["value", "strands", "most"] (spD K 3 F__law_word)) (l__law_word : j__law_word ≤ k) (m__law_word : mg "_law_word" = some (.ref f__law_word)) (k__law_word : PySem.W.keepIn K (.ref f__law_word) = true) (b__law_word : Binds K fd__law_word ["value", "strands", "most"] []) {F__law_mixed : FD} {f__law_mixed : Addr} {fd__law_mixed : FuncData} {j__law_mixed : Nat} (G__law_mixed : FnOk P w K mg base CX0 j__law_mixed f__law_mixed fd__law_mixed ["cell", "turn"] (spD K 2 F__law_mixed)) (l__law_mixed : j__law_mixed ≤ k) (m__law_mixed : mg "_law_mixed" = some (.ref f__law_mixed)) (k__law_mixed : PySem.W.keepIn K (.ref f__law_mixed) = true) (b__law_mixed : Binds K fd__law_mixed ["cell", "turn"] []) (m_enumerate : mg "enumerate" = none) (m_range : mg "range" = none) (m_len : mg "len" = none) (m_tuple : mg "tuple" = none) :
    FnOk P w K mg base CX0 (k + 1) f fd ["script"] (spD K 1 (runD 13 (g_law F__law_same F_followed F__law_row F__law_row_word F_starts F__law_starts F_ends F__law_ends F_crossings F_row_of F__law_drawn_row F_half_turn F_plain_row F__law_word F__law_mixed))) :=
  have nd := (sc_law).nd
  def_ok F sc_law fun cdv A outer s H E hr =>
  (ss_cons (s_forE (n := 2) m_enumerate (a_cons (d_sl (d_var 0) p_none (p_some d_int)) a_nil) (gs_cons (g_name 1 nd) (gs_cons (g_name 2 nd) gs_nil)) (ss_cons (s_set 3 nd (d_call G__law_mixed (hr.mono l__law_mixed) m__law_mixed k__law_mixed b__law_mixed (a_cons (d_var 2) (a_cons (d_var 1) a_nil)) (al_cons (al_cons al_nil))))
    (ss_cons (s_set 4 nd (d_add d_int (d_mod (d_var 3) d_int)))
    (ss_cons (s_set 5 nd (d_call G__law_word (hr.mono l__law_word) m__law_word k__law_word b__law_word (a_cons (d_div (d_var 3) d_int) (a_cons (d_var 4) (a_cons d_int a_nil))) (al_cons (al_cons (al_cons al_nil)))))
    (ss_cons (s_setLc 6 12 "k" nd (DI.dj (i_rg1 m_range (a_cons (d_var 4) a_nil))) (by show blkC ["script", "turn", "cell", "value", "strands", "word", "plain", "row", "other", "many", "j", "both", "k"] (defScope s_law) _ _ = true; decide +kernel) (fun _ _ _ _ _ => pg_name (i := 12) nd rfl (Or.inl rfl)) (fun _ _ _ _ _ => ts_nil) (fun _ _ _ _ _ => (d_var 12)))
    (ss_cons (s_if (t_not (t_tru (d_call G__law_same (hr.mono l__law_same) m__law_same k__law_same b__law_same (a_cons (d_call G_plain_row (hr.mono l_plain_row) m_plain_row k_plain_row b_plain_row (a_cons (d_var 4) a_nil) (al_cons al_nil)) (a_cons (d_ty call_tupleF c_tuple m_tuple (by decide +kernel) (a_cons (d_var 6) a_nil)) a_nil)) (al_cons (al_cons al_nil))))) (ss_one (s_ret d_bl)) ss_nil)
    (ss_cons (s_if (t_not (t_tru (d_call G__law_same (hr.mono l__law_same) m__law_same k__law_same b__law_same (a_cons (d_call G_half_turn (hr.mono l_half_turn) m_half_turn k_half_turn b_half_turn (a_cons (d_var 4) a_nil) (al_cons al_nil)) (a_cons (d_ty call_tupleF c_tuple m_tuple (by decide +kernel) (a_cons (d_lc 12 "k" nd (j_seq (d_var 6)) (by show blkC ["script", "turn", "cell", "value", "strands", "word", "plain", "row", "other", "many", "j", "both", "k"] (defScope s_law) _ _ = true; decide +kernel) (fun _ _ _ _ _ => pg_name (i := 12) nd rfl (Or.inl rfl)) (fun _ _ _ _ _ => ts_nil) (fun _ _ _ _ _ => (d_sub (d_sub (d_var 4) d_int) (d_var 12)))) a_nil)) a_nil)) (al_cons (al_cons al_nil))))) (ss_one (s_ret d_bl)) ss_nil)
    (ss_cons (s_set 7 nd (d_call G__law_row (hr.mono l__law_row) m__law_row k__law_row b__law_row (a_cons (d_var 4) (a_cons (d_var 5) a_nil)) (al_cons (al_cons al_nil))))
    (ss_cons (s_set 8 nd (d_call G__law_drawn_row (hr.mono l__law_drawn_row) m__law_drawn_row k__law_drawn_row b__law_drawn_row (a_cons (d_div (d_var 3) d_int) (a_cons (d_var 4) a_nil)) (al_cons (al_cons al_nil))))
    (ss_cons (s_if (t_not (t_tru (d_call G__law_same (hr.mono l__law_same) m__law_same k__law_same b__law_same (a_cons (d_call G_row_of (hr.mono l_row_of) m_row_of k_row_of b_row_of (a_cons (d_var 4) (a_cons (d_var 5) a_nil)) (al_cons (al_cons al_nil))) (a_cons (d_var 7) a_nil)) (al_cons (al_cons al_nil))))) (ss_one (s_ret d_bl)) ss_nil)
    (ss_cons (s_set 9 nd d_int)
    (ss_cons (s_for (i_rg1 m_range (a_cons (d_var 4) a_nil)) (g_name 10 nd) (ss_one (s_set 9 nd (d_add (d_var 9) (d_blt call_len c_len m_len (by decide +kernel) (a_cons (d_lc 12 "k" nd (DI.dj (i_rg2 m_range (a_cons (d_add (d_var 10) d_int) (a_cons (d_var 4) a_nil)))) (by show blkC ["script", "turn", "cell", "value", "strands", "word", "plain", "row", "other", "many", "j", "both", "k"] (defScope s_law) _ _ = true; decide +kernel) (fun _ _ _ _ _ => pg_name (i := 12) nd rfl (Or.inl rfl)) (fun _ _ _ _ _ => ts_one (t_cmp op_gt o_gt (d_ix (d_var 8) (d_var 10)) (d_ix (d_var 8) (d_var 12)) (nomark _))) (fun _ _ _ _ _ => (d_var 12))) a_nil))))))
    (ss_cons (s_if (t_not (t_tru (d_call G__law_same (hr.mono l__law_same) m__law_same k__law_same b__law_same (a_cons (d_call G_crossings (hr.mono l_crossings) m_crossings k_crossings b_crossings (a_cons (d_var 8) a_nil) (al_cons al_nil)) (a_cons (d_var 9) a_nil)) (al_cons (al_cons al_nil))))) (ss_one (s_ret d_bl)) ss_nil)
    (ss_cons (s_if (t_bool (w_or (t_not (t_tru (d_call G__law_same (hr.mono l__law_same) m__law_same k__law_same b__law_same (a_cons (d_call G_starts (hr.mono l_starts) m_starts k_starts b_starts (a_cons (d_var 8) a_nil) (al_cons al_nil)) (a_cons (d_call G__law_starts (hr.mono l__law_starts) m__law_starts k__law_starts b__law_starts (a_cons (d_var 8) a_nil) (al_cons al_nil)) a_nil)) (al_cons (al_cons al_nil))))) (w_or1 (t_not (t_tru (d_call G__law_same (hr.mono l__law_same) m__law_same k__law_same b__law_same (a_cons (d_call G_ends (hr.mono l_ends) m_ends k_ends b_ends (a_cons (d_var 8) a_nil) (al_cons al_nil)) (a_cons (d_call G__law_ends (hr.mono l__law_ends) m__law_ends k__law_ends b__law_ends (a_cons (d_var 8) a_nil) (al_cons al_nil)) a_nil)) (al_cons (al_cons al_nil)))))))) (ss_one (s_ret d_bl)) ss_nil)
    (ss_cons (s_set 11 nd (d_call G__law_row (hr.mono l__law_row) m__law_row k__law_row b__law_row (a_cons (d_var 4) (a_cons (d_add (d_var 5) (d_call G__law_row_word (hr.mono l__law_row_word) m__law_row_word k__law_row_word b__law_row_word (a_cons (d_var 8) a_nil) (al_cons al_nil))) a_nil)) (al_cons (al_cons al_nil))))
    (ss_one (s_if (t_not (t_tru (d_call G__law_same (hr.mono l__law_same) m__law_same k__law_same b__law_same (a_cons (d_call G_followed (hr.mono l_followed) m_followed k_followed b_followed (a_cons (d_var 7) (a_cons (d_var 8) a_nil)) (al_cons (al_cons al_nil))) (a_cons (d_var 11) a_nil)) (al_cons (al_cons al_nil))))) (ss_one (s_ret d_bl)) ss_nil)))))))))))))))))
    (ss_one (s_ret d_bl)))
/-! ### what each def yields -/
def R_plain_row : FD := runD 1 (g_plain_row)
def R_half_turn : FD := runD 1 (g_half_turn R_plain_row)
def R_row_of : FD := runD 5 (g_row_of)
def R_crossings : FD := runD 4 (g_crossings)
def R_places_of : FD := runN 4 (g_places_of) (gq_places_of)
def R_starts : FD := runD 3 (g_starts R_places_of)
def R_ends : FD := runD 2 (g_ends)
def R_followed : FD := runD 3 (g_followed)
def R__law_mixed : FD := runD 6 (g__law_mixed)
def R__law_word : FD := runD 7 (g__law_word)
def R__law_row : FD := runD 5 (g__law_row)
def R__law_ends : FD := runD 2 (g__law_ends)
def R__law_starts : FD := runD 2 (g__law_starts)
def R__law_rest : FD := runD 3 (g__law_rest)
def R__law_drawn_row : FD := runD 6 (g__law_drawn_row)
def R__law_row_word : FD := runD 3 (g__law_row_word R__law_starts R__law_rest (fun _ => 1000))
def R__law_same_0 : FD := fun _ => none
def R__law_same_1 : FD := runD 3 (g__law_same R__law_same_0)
def R__law_same_2 : FD := runD 3 (g__law_same R__law_same_1)
def R__law_same : FD := R__law_same_2
def R_law : FD := runD 13 (g_law R__law_same R_followed R__law_row R__law_row_word R_starts R__law_starts R_ends R__law_ends R_crossings R_row_of R__law_drawn_row R_half_turn R_plain_row R__law_word R__law_mixed)
end K04
/-! the program's places of a row, and its word of a row -/
namespace DL
open PySem PySem.Spec PyProof.Rows L2
/-- slots 0 row, 1 places, 2 place, 3 strand -/
def P_places_of : FS := (gSeq (gSetO 1 (fRepL (fLst (aCons (fC (.int 0)) aNil)) (fC1 gLen (aCons (fVar 0) aNil))))
    (gSeq (gFor (enT (aCons (fVar 0) aNil)) (uTup 2 (uCons (uName 2) (uCons (uName 3) uNil))) (gPut 1 (fVar 3) (fVar 2)))
    gNil))
def P_places_t : FE := (fVar 1)
/-- slots 0 row, 1 places, 2 word, 3 letter -/
def P_word_of_row (F_places_of : FD) (mu_word_of_row_1 : Rho → Nat) : FS := (gSeq (gSetO 1 (fCallN F_places_of (aCons (fVar 0) aNil)))
    (gSeq (gSetO 2 (fLst aNil))
    (gSeq (gSet 3 (fC (.int 1)))
    (gSeq (gWh mu_word_of_row_1 (fB (f2 gLt (fVar 3) (fC1 gLen (aCons (fVar 1) aNil)))) (gIf (fB (f2 gGt (f2 gIx (fVar 1) (f2 gMinus (fVar 3) (fC (.int 1)))) (f2 gIx (fVar 1) (fVar 3)))) (gSeq (gApp 2 (fVar 3))
    (gSeq (gSwap 1 (f2 gMinus (fVar 3) (fC (.int 1))) (fVar 3) (aCons (f2 gIx (fVar 1) (fVar 3)) (aCons (f2 gIx (fVar 1) (f2 gMinus (fVar 3) (fC (.int 1)))) aNil)))
    (gSet 3 (fC1 gMax (aCons (f2 gMinus (fVar 3) (fC (.int 1))) (aCons (fC (.int 1)) aNil)))))) (gAug 3 hAdd (fC (.int 1)))))
    (gRet (fC1 gTuple (aCons (fVar 2) aNil)))))))
def plR (r : List Int) : List Int := (List.range r.length).map fun k : Nat => ((posI r (k : Int) : Nat) : Int)
def plI (r : List Int) (i : Nat) : List Int := (List.range r.length).map fun k : Nat => if posI r (k : Int) < i then ((posI r (k : Int) : Nat) : Int) else 0
theorem plI_zero (r : List Int) : plI r 0 = List.replicate r.length 0 := by
  unfold plI
  apply List.ext_getElem?
  intro k
  by_cases h : k < r.length
  · rw [List.getElem?_map, List.getElem?_range h, List.getElem?_replicate, if_pos h]
    simp
  · rw [List.getElem?_eq_none (by simp; omega), List.getElem?_eq_none (by simp; omega)]
theorem plI_end {n : Nat} {r : List Int} (hr : Row n r) : plI r r.length = plR r := by
  unfold plI plR
  refine List.map_congr_left fun k hk => ?_
  have := List.mem_range.mp hk
  have q := (posI_lt (hr.all k (by have := hr.len; omega))).1
  rw [if_pos q]
theorem posI_at {r : List Int} (hd : r.Nodup) {i : Nat} {x : Int} (h : r[i]? = some x) : posI r x = i := by
  have hm : x ∈ r := List.mem_of_getElem? h
  obtain ⟨h1, h2⟩ := posI_lt hm
  have hi := (List.getElem?_eq_some_iff.mp h).1
  exact (List.getElem?_inj h1 hd).mp (by rw [h2, h])
theorem plI_succ {n : Nat} {r : List Int} (hr : Row n r) {i : Nat} {x : Int} (h : r[i]? = some x) : (plI r i).set x.toNat (i : Int) = plI r (i + 1) := by
  have hx := hr.mem.mp (List.mem_of_getElem? h)
  have hl := hr.len
  have hp := posI_at hr.nd h
  apply List.ext_getElem?
  intro k
  by_cases hk : k < r.length
  · rw [List.getElem?_set]
    unfold plI
    by_cases e : x.toNat = k
    · rw [if_pos e, if_pos (by simp; omega), List.getElem?_map, List.getElem?_range hk]
      have : (k : Int) = x := by omega
      simp only [Option.map_some]
      rw [this, hp, if_pos (by omega)]
    · rw [if_neg e, List.getElem?_map, List.getElem?_map, List.getElem?_range hk]
      simp only [Option.map_some]
      have hne : posI r (k : Int) ≠ i := fun z => by
        have := (posI_lt (hr.all k (by omega))).2
        rw [z, h] at this
        have := Option.some.inj this
        omega
      by_cases q : posI r (k : Int) < i
      · rw [if_pos q, if_pos (by omega)]
      · rw [if_neg q, if_neg (by omega)]
  · rw [List.getElem?_eq_none (by simp [plI]; omega), List.getElem?_eq_none (by simp [plI]; omega)]
theorem p_places {n : Nat} {r : List Int} (hr : Row n r) (hn : n ≤ 1000) : runN 4 P_places_of P_places_t [wd r] = some (.list ((plR r).map PyData.int)) := by
  have hl := hr.len
  unfold runN
  have key : ∃ x y, P_places_of (startR 4 [wd r]) = some (.nx [Slot.d (wd r), .own ((plR r).map PyData.int), x, y]) := by
    have e0 : (List.replicate r.length (PyData.int 0)) = (plI r 0).map PyData.int := by rw [plI_zero, List.map_replicate]
    have e1 : (List.replicate ((r.length : Int)).toNat [PyData.int 0]).flatten = List.replicate r.length (PyData.int 0) := by
      rw [Int.toNat_natCast]
      clear e0
      induction r.length with
      | zero => rfl
      | succ k ih => rw [List.replicate_succ, List.flatten_cons, ih]; rfl
    have r1 : fRepL (fLst (aCons (fC (.int 0)) aNil)) (fC1 gLen (aCons (fVar 0) aNil)) [Slot.d (wd r), .und, .und, .und] = some (.nw ((plI r 0).map PyData.int)) := by
      have c : (0 : Int) ≤ (r.length : Int) ∧ (r.length : Int) ≤ 1000 ∧ [PyData.int 0].length ≤ 1000 := ⟨by omega, by omega, by simp⟩
      have u : fRepL (fLst (aCons (fC (.int 0)) aNil)) (fC1 gLen (aCons (fVar 0) aNil)) [Slot.d (wd r), .und, .und, .und] = (if (0 : Int) ≤ (r.length : Int) ∧ (r.length : Int) ≤ 1000 ∧ [PyData.int 0].length ≤ 1000 then some (Res.nw (List.replicate ((r.length : Int)).toNat [PyData.int 0]).flatten) else none) := by
        simp -implicitDefEqProofs [fRepL]
      rw [u, if_pos c, e1, e0]
    have r2 : enT (aCons (fVar 0) aNil) [Slot.d (wd r), .own ((plI r 0).map PyData.int), .und, .und] = some (enD 0 (r.map PyData.int)) := rfl
    obtain ⟨ρ', f1, f2⟩ := forD_inv (xs := enD 0 (r.map PyData.int)) (u := uTup 2 (uCons (uName 2) (uCons (uName 3) uNil))) (g := gPut 1 (fVar 3) (fVar 2))
      (fun i ρ => ∃ x y, ρ = [Slot.d (wd r), .own ((plI r i).map PyData.int), x, y]) (ρ := [Slot.d (wd r), .own ((plI r 0).map PyData.int), .und, .und]) ⟨_, _, rfl⟩ (by
        rintro i x ρ hi ⟨x2, x3, rfl⟩
        obtain ⟨y, hy, rfl⟩ := enD_at hi
        obtain ⟨z, hz, rfl⟩ := map_get hy
        have hx := hr.mem.mp (List.mem_of_getElem? hz)
        refine ⟨[Slot.d (wd r), .own ((plI r i).map PyData.int), .d (.int (i : Int)), .d (.int z)], [Slot.d (wd r), .own ((plI r (i + 1)).map PyData.int), .d (.int (i : Int)), .d (.int z)], rfl, .inl ?_, _, _, rfl⟩
        have ez : z = ((z.toNat : Nat) : Int) := by omega
        have lz : z.toNat < ((plI r i).map PyData.int).length := by simp [plI]; omega
        have p1 := plI_succ hr hz
        have p2 : ((plI r i).map PyData.int).set z.toNat (.int (i : Int)) = (plI r (i + 1)).map PyData.int := by rw [← p1, List.map_set]
        have p3 := ixN_nat lz
        rw [← ez] at p3
        generalize (plI r i).map PyData.int = L at p2 p3
        simp -implicitDefEqProofs [putS, p3, p2])
    rw [enD_len, List.length_map] at f2
    obtain ⟨x, y, rfl⟩ := f2
    rw [plI_end hr] at f1
    refine ⟨x, y, ?_⟩
    show P_places_of [Slot.d (wd r), .und, .und, .und] = _
    unfold P_places_of
    rw [gSeq_eq, gSetO, r1, Option.bind_some]
    show (some (Out.nx [Slot.d (wd r), .own ((plI r 0).map PyData.int), .und, .und])).bind _ = _
    rw [Option.bind_some, thn_nx, gSeq_eq, gFor_eq, r2, Option.bind_some, f1]
    rfl
  obtain ⟨x, y, e⟩ := key
  rw [e]
  rfl
/-! ### the word of a row -/
theorem rwd_more {n : Nat} (hn : n ≤ 8) : ∀ {f f' : Nat} {r : List Int}, Row n r → 512 - Tm 0 r < (f : Int) → 512 - Tm 0 r < (f' : Int) → rwd f r = rwd f' r
  | 0, _, r, hr, h, _ => by have := bound hn hr; omega
  | _, 0, r, hr, _, h => by have := bound hn hr; omega
  | f + 1, f' + 1, r, hr, h, h' => by
    have hb := bound hn hr
    unfold rwd
    cases hs : startsR r with
    | nil => rfl
    | cons w vs =>
      have hw : w ∈ startsR r := by rw [hs]; exact List.mem_cons_self
      obtain ⟨h1, h2, _⟩ := starts_mem hr hw
      have hl := less hn hr hw
      show w :: rwd f (restR w r) = w :: rwd f' (restR w r)
      rw [rwd_more hn (hr.rest h1 h2) (f := f) (f' := f') (by omega) (by omega)]
theorem starts_iff {n : Nat} {r : List Int} (hr : Row n r) {w : Int} : w ∈ startsR r ↔ 1 ≤ w ∧ w < n ∧ posI r w < posI r (w - 1) := by
  refine ⟨starts_mem hr, fun ⟨h1, h2, h3⟩ => ?_⟩
  have hl := hr.len
  unfold startsR
  refine List.mem_map.mpr ⟨(w - 1).toNat, List.mem_filter.mpr ⟨List.mem_range.mpr (by omega), ?_⟩, by omega⟩
  have e1 : (((w - 1).toNat : Nat) : Int) = w - 1 := by omega
  rw [e1, show w - 1 + 1 = w by omega]
  exact decide_eq_true h3
theorem starts_sorted (r : List Int) : (startsR r).Pairwise (· < ·) := by
  unfold startsR
  refine List.Pairwise.map _ (fun a b (h : a < b) => by omega) ?_
  exact List.Pairwise.filter _ List.pairwise_lt_range
/-- the first start, if none below is one -/
theorem starts_first {n : Nat} {r : List Int} (hr : Row n r) {w : Int} (h : w ∈ startsR r) (k : ∀ j, j < w → j ∉ startsR r) : ∃ vs, startsR r = w :: vs := by
  cases hs : startsR r with
  | nil => rw [hs] at h; cases h
  | cons x vs =>
    refine ⟨vs, ?_⟩
    have hx : x ∈ startsR r := by rw [hs]; exact List.mem_cons_self
    have q := starts_sorted r
    rw [hs] at q h
    rcases List.mem_cons.mp h with e | e
    · rw [e]
    · have := (List.pairwise_cons.mp q).1 w e
      exact absurd hx (k x this)
theorem starts_none {n : Nat} {r : List Int} (hr : Row n r) (k : ∀ j, j < (n : Int) → j ∉ startsR r) : startsR r = [] := by
  cases hs : startsR r with
  | nil => rfl
  | cons x vs =>
    have hx : x ∈ startsR r := by rw [hs]; exact List.mem_cons_self
    exact absurd hx (k x (starts_mem hr hx).2.1)
theorem posI_map {f g : Int → Int} (hfg : ∀ x, g (f x) = x) (hgf : ∀ x, f (g x) = x) {k : Int} : ∀ {r : List Int}, posI (r.map f) k = posI r (g k)
  | [] => rfl
  | x :: xs => by
    show (if f x = k then 0 else posI (xs.map f) k + 1) = if x = g k then 0 else posI xs (g k) + 1
    by_cases e : f x = k
    · rw [if_pos e, if_pos (by rw [← e, hfg])]
    · rw [if_neg e, if_neg (fun z => e (by rw [z, hgf])), posI_map hfg hgf]
theorem posI_rest {w k : Int} {r : List Int} : posI (restR w r) k = posI r (tr w k) := by
  rw [restR_eq]
  exact posI_map (tr_tr w) (tr_tr w)
theorem plR_get {r : List Int} {k : Nat} (h : k < r.length) : (plR r)[k]? = some ((posI r (k : Int) : Nat) : Int) := by
  unfold plR
  rw [List.getElem?_map, List.getElem?_range h]
  rfl
theorem plR_len (r : List Int) : (plR r).length = r.length := by unfold plR; rw [List.length_map, List.length_range]
theorem plR_rest {n : Nat} {r : List Int} (hr : Row n r) {w : Nat} (h1 : 1 ≤ w) (h2 : w < n) : ((plR r).set (w - 1) ((posI r (w : Int) : Nat) : Int)).set w ((posI r ((w : Int) - 1) : Nat) : Int) = plR (restR (w : Int) r) := by
  have hl := hr.len
  have hl2 : (restR (w : Int) r).length = n := (hr.rest (by omega) (by omega)).len
  apply List.ext_getElem?
  intro k
  by_cases hk : k < n
  · rw [List.getElem?_set, List.getElem?_set, plR_get (r := restR (w : Int) r) (by omega), posI_rest, List.length_set, plR_len]
    by_cases e1 : w = k
    · subst e1
      rw [if_pos rfl, if_pos (by omega)]
      unfold tr
      rw [if_neg (by omega), if_pos rfl]
    · rw [if_neg e1]
      by_cases e2 : w - 1 = k
      · rw [if_pos e2, if_pos (by omega)]
        unfold tr
        rw [if_pos (by omega)]
      · rw [if_neg e2, plR_get (by omega)]
        unfold tr
        rw [if_neg (by omega), if_neg (by omega)]
  · rw [List.getElem?_eq_none (by rw [List.length_set, List.length_set, plR_len]; omega), List.getElem?_eq_none (by rw [plR_len]; omega)]
/-- the program's word of a row is the laws' -/
theorem p_word_of_row {n : Nat} {r : List Int} {FP : FD} (hn : n ≤ 8) (hn2 : 1 ≤ n) (hr : Row n r) (hP : FP [wd r] = some (.list ((plR r).map PyData.int))) : runD 4 (P_word_of_row FP (fun _ => 2000)) [wd r] = some (wd (rwd 1000 r)) := by
  have hb := bound hn hr
  have hl := hr.len
  let S : List Int → List Int → Int → Rho := fun r' ws k => [.d (wd r), .own ((plR r').map PyData.int), .own (ws.map PyData.int), .d (.int k)]
  have e0 : fCallN FP (aCons (fVar 0) aNil) [Slot.d (wd r), .und, .und, .und] = some (.nw ((plR r).map PyData.int)) := by
    show (FP [wd r]).bind lstOf = _
    rw [hP]
    rfl
  have key : ∃ ρ', whD (fB (f2 gLt (fVar 3) (fC1 gLen (aCons (fVar 1) aNil)))) (gIf (fB (f2 gGt (f2 gIx (fVar 1) (f2 gMinus (fVar 3) (fC (.int 1)))) (f2 gIx (fVar 1) (fVar 3)))) (gSeq (gApp 2 (fVar 3))
      (gSeq (gSwap 1 (f2 gMinus (fVar 3) (fC (.int 1))) (fVar 3) (aCons (f2 gIx (fVar 1) (fVar 3)) (aCons (f2 gIx (fVar 1) (f2 gMinus (fVar 3) (fC (.int 1)))) aNil)))
      (gSet 3 (fC1 gMax (aCons (f2 gMinus (fVar 3) (fC (.int 1))) (aCons (fC (.int 1)) aNil)))))) (gAug 3 hAdd (fC (.int 1)))) 2000 (S r [] 1) = some (.nx ρ') ∧ ∃ r' k, ρ' = S r' (rwd 1000 r) k := by
    refine whD_go (fun m ρ => ∃ (r' ws : List Int) (k : Nat), ρ = S r' ws (k : Int) ∧ Row n r' ∧ 1 ≤ k ∧ k ≤ n ∧ ws ++ rwd 1000 r' = rwd 1000 r ∧ (ws.length : Int) ≤ Tm 0 r' ∧ (∀ j : Int, j < k → j ∉ startsR r') ∧ m = (2 * (512 - Tm 0 r')).toNat + (n - k))
      (fun ρ' => ∃ r' k, ρ' = S r' (rwd 1000 r) k) ?_ 2000 ((2 * (512 - Tm 0 r)).toNat + (n - 1)) _ ⟨r, [], 1, rfl, hr, by omega, hn2, rfl, by simp; omega, fun j hj hm => by have := starts_mem hr hm; omega, rfl⟩ (by omega)
    rintro m ρ ⟨r', ws, k, rfl, hr', hk1, hk2, hw, hlw, hns, rfl⟩
    have hb' := bound hn hr'
    have hl' := hr'.len
    by_cases hk : k < n
    · have g1 : atI ((plR r').map PyData.int) ((k : Nat) : Int) = some (.int (posI r' (k : Int) : Nat)) := atI_nat (by rw [List.getElem?_map, plR_get (by omega)]; rfl)
      have g2 : atI ((plR r').map PyData.int) (((k - 1 : Nat)) : Int) = some (.int (posI r' ((k : Int) - 1) : Nat)) := atI_nat (by rw [List.getElem?_map, plR_get (by omega), show (((k - 1 : Nat)) : Int) = (k : Int) - 1 by omega]; rfl)
      have ek : (k : Int) - 1 = ((k - 1 : Nat) : Int) := by omega
      refine .inr ⟨?_, ?_⟩
      · simp -implicitDefEqProofs [S, plR_len]
        omega
      by_cases hs : posI r' (k : Int) < posI r' ((k : Int) - 1)
      · have hm : (k : Int) ∈ startsR r' := (starts_iff hr').mpr ⟨by omega, by omega, hs⟩
        obtain ⟨vs, hvs⟩ := starts_first hr' hm hns
        have hlt := less hn hr' hm
        have hrr := hr'.rest (w := (k : Int)) (by omega) (by omega)
        have hb2 := bound hn hrr
        have step : rwd 1000 r' = (k : Int) :: rwd 1000 (restR (k : Int) r') := by
          have a : rwd (999 + 1) r' = (k : Int) :: rwd 999 (restR (k : Int) r') := by
            show (match startsR r' with
              | [] => []
              | w :: _ => w :: rwd 999 (restR w r')) = _
            rw [hvs]
          rw [show (1000 : Nat) = 999 + 1 from rfl, a, rwd_more hn hrr (f := 999) (f' := 999 + 1) (by omega) (by omega)]
        have sw := plR_rest hr' hk1 hk
        have x1 : ixN (plR r').length (k : Int) = some k := ixN_nat (by rw [plR_len]; omega)
        have x2 : ixN (plR r').length ((k - 1 : Nat) : Int) = some (k - 1) := ixN_nat (by rw [plR_len]; omega)
        have small' : ws.length ≤ 100000 := by omega
        refine ⟨S (restR (k : Int) r') (ws ++ [(k : Int)]) ((max (k - 1) 1 : Nat) : Int), (2 * (512 - Tm 0 (restR (k : Int) r'))).toNat + (n - max (k - 1) 1), by omega, ?_, restR (k : Int) r', ws ++ [(k : Int)], max (k - 1) 1, rfl, hrr, by omega, by omega, by rw [← hw, step]; simp, by rw [List.length_append, List.length_singleton]; omega, fun j hj hm2 => ?_, rfl⟩
        · have mx : (if ((k - 1 : Nat) : Int) < 1 then (1 : Int) else ((k - 1 : Nat) : Int)) = ((max (k - 1) 1 : Nat) : Int) := by split <;> omega
          have sw2 : (((plR r').map PyData.int).set (k - 1) (.int (posI r' (k : Int) : Nat))).set k (.int (posI r' ((k : Int) - 1) : Nat)) = (plR (restR (k : Int) r')).map PyData.int := by rw [← sw, List.map_set, List.map_set]
          rw [ek] at hs sw2 g2
          have x3 : ixN ((plR r').map PyData.int).length (k : Int) = some k := by rw [List.length_map]; exact x1
          have x4 : ixN ((plR r').map PyData.int).length ((k - 1 : Nat) : Int) = some (k - 1) := by rw [List.length_map]; exact x2
          show gIf _ _ _ [Slot.d (wd r), .own ((plR r').map PyData.int), .own (ws.map PyData.int), .d (.int (k : Int))] = some (.nx [Slot.d (wd r), .own ((plR (restR (k : Int) r')).map PyData.int), .own ((ws ++ [(k : Int)]).map PyData.int), .d (.int ((max (k - 1) 1 : Nat) : Int))])
          generalize (plR (restR (k : Int) r')).map PyData.int = L2' at sw2
          generalize ((max (k - 1) 1 : Nat) : Int) = M at mx
          generalize (plR r').map PyData.int = L1' at g1 g2 sw2 x3 x4
          generalize posI r' (k : Int) = p at g1 sw2 hs
          generalize posI r' ((k - 1 : Nat) : Int) = q at g2 sw2 hs
          generalize ((k - 1 : Nat) : Int) = k1 at *
          simp -implicitDefEqProofs [ek, g1, g2, hs, gSwap, x3, x4, small', mx, sw2]
        · obtain ⟨j1, j2, j3⟩ := (starts_iff hrr).mp hm2
          rw [posI_rest, posI_rest] at j3
          have hj' : j ≤ k - 2 := by omega
          unfold tr at j3
          rw [if_neg (by omega), if_neg (by omega), if_neg (by omega), if_neg (by omega)] at j3
          exact hns j (by omega) ((starts_iff hr').mpr ⟨j1, j2, j3⟩)
      · have hno : (k : Int) ∉ startsR r' := fun z => hs ((starts_iff hr').mp z).2.2
        refine ⟨S r' ws ((k + 1 : Nat) : Int), (2 * (512 - Tm 0 r')).toNat + (n - (k + 1)), by omega, ?_, r', ws, k + 1, rfl, hr', by omega, by omega, hw, hlw, fun j hj => ?_, rfl⟩
        · rw [ek] at hs g2
          generalize posI r' (k : Int) = p at g1 hs
          generalize posI r' ((k - 1 : Nat) : Int) = q at g2 hs
          simp -implicitDefEqProofs [S, ek, g1, g2, hs]
        · by_cases e : j = k
          · rw [e]; exact hno
          · exact hns j (by omega)
    · refine .inl ⟨?_, r', k, ?_⟩
      · simp -implicitDefEqProofs [S, plR_len]
        omega
      · have hnone := starts_none hr' fun j hj => hns j (by omega)
        have e : rwd 1000 r' = [] := by
          show (match startsR r' with
            | [] => []
            | w :: _ => w :: rwd 999 (restR w r')) = _
          rw [hnone]
        rw [e, List.append_nil] at hw
        rw [hw]
  obtain ⟨ρ', e, r', k, rfl⟩ := key
  have e' : whD (fB (f2 gLt (fVar 3) (fC1 gLen (aCons (fVar 1) aNil)))) (gIf (fB (f2 gGt (f2 gIx (fVar 1) (f2 gMinus (fVar 3) (fC (.int 1)))) (f2 gIx (fVar 1) (fVar 3)))) (gSeq (gApp 2 (fVar 3))
      (gSeq (gSwap 1 (f2 gMinus (fVar 3) (fC (.int 1))) (fVar 3) (aCons (f2 gIx (fVar 1) (fVar 3)) (aCons (f2 gIx (fVar 1) (f2 gMinus (fVar 3) (fC (.int 1)))) aNil)))
      (gSet 3 (fC1 gMax (aCons (f2 gMinus (fVar 3) (fC (.int 1))) (aCons (fC (.int 1)) aNil)))))) (gAug 3 hAdd (fC (.int 1)))) 2000 [Slot.d (wd r), .own ((plR r).map PyData.int), .own [], .d (.int 1)] = some (.nx [Slot.d (wd r), .own ((plR r').map PyData.int), .own ((rwd 1000 r).map PyData.int), .d (.int k)]) := e
  simp -implicitDefEqProofs [runD_eq, P_word_of_row, Option.bind_assoc]
  rw [e0, Option.bind_some]
  generalize (plR r).map PyData.int = L1 at e'
  simp -implicitDefEqProofs [e', Option.bind_assoc]
end DL
/-! the crossings of a row are as many as its word has letters -/
namespace DL
open PySem PySem.Spec PyProof.Rows L2
def invI : List Int → Nat
  | [] => 0
  | x :: xs => xs.countP (fun y => decide (y < x)) + invI xs
theorem invI_map {f : Int → Int} : ∀ {xs : List Int}, (∀ y ∈ xs, ∀ z ∈ xs, (f y < f z ↔ y < z)) → invI (xs.map f) = invI xs
  | [], _ => rfl
  | x :: xs, h => by
    show (xs.map f).countP (fun y => decide (y < f x)) + invI (xs.map f) = xs.countP (fun y => decide (y < x)) + invI xs
    rw [invI_map fun y hy z hz => h y (List.mem_cons_of_mem _ hy) z (List.mem_cons_of_mem _ hz), List.countP_map]
    congr 1
    refine List.countP_congr fun y hy => ?_
    have := h y (List.mem_cons_of_mem _ hy) x List.mem_cons_self
    simp [this]
theorem invI_rest {w : Int} : ∀ {r : List Int}, r.Nodup → w ∈ r → w - 1 ∈ r → posI r w < posI r (w - 1) → invI (restR w r) + 1 = invI r
  | [], _, h, _, _ => by cases h
  | x :: xs, nd, h1, h2, h3 => by
    obtain ⟨n1, n2⟩ := List.nodup_cons.mp nd
    rw [restR_eq]
    show (xs.map (tr w)).countP (fun y => decide (y < tr w x)) + invI (xs.map (tr w)) + 1 = xs.countP (fun y => decide (y < x)) + invI xs
    rw [List.countP_map]
    by_cases e : x = w
    · subst e
      have m2 : x - 1 ∈ xs := (List.mem_cons.mp h2).resolve_left (by omega)
      have hB : invI (xs.map (tr x)) = invI xs := invI_map fun y hy z hz => by
        have y1 : y ≠ x := fun q => n1 (q ▸ hy)
        have z1 : z ≠ x := fun q => n1 (q ▸ hz)
        unfold tr
        split <;> split <;> (try split) <;> (try split) <;> omega
      have hA : xs.countP (fun y => decide (y < x)) = xs.countP ((fun y => decide (y < tr x x)) ∘ tr x) + 1 := by
        have key : ∀ l : List Int, l.Nodup → x ∉ l → l.countP (fun y => decide (y < x)) = l.countP ((fun y => decide (y < tr x x)) ∘ tr x) + l.count (x - 1) := fun l => by
          induction l with
          | nil => intro _ _; rfl
          | cons y l ih =>
            intro nd' hx
            obtain ⟨a1, a2⟩ := List.nodup_cons.mp nd'
            have ih' := ih a2 (fun q => hx (List.mem_cons_of_mem _ q))
            have yx : y ≠ x := fun q => hx (q ▸ List.mem_cons_self)
            rw [List.countP_cons, List.countP_cons, List.count_cons, ih']
            have t0 : tr x x = x - 1 := by unfold tr; rw [if_neg (by omega), if_pos rfl]
            by_cases q : y = x - 1
            · subst q
              have t1 : tr x (x - 1) = x := by unfold tr; rw [if_pos rfl]
              have u1 : x - 1 < x := by omega
              have u2 : ¬ x < x - 1 := by omega
              simp [t0, t1, u1, u2]
              try omega
            · have t1 : tr x y = y := by unfold tr; rw [if_neg q, if_neg yx]
              by_cases q2 : y < x
              · have q3 : y < x - 1 := by omega
                simp [t0, t1, q, q2, q3]
                omega
              · have q3 : ¬ y < x - 1 := by omega
                simp [t0, t1, q, q2, q3]
        rw [key xs n2 n1, show xs.count (x - 1) = 1 by first | (rw [n2.count, if_pos m2]) | exact List.count_eq_one_of_mem n2 m2]
      rw [hA, hB]
      omega
    · have e2 : x ≠ w - 1 := fun q => by
        unfold posI at h3
        rw [if_neg e, if_pos q] at h3
        omega
      have m1 : w ∈ xs := (List.mem_cons.mp h1).resolve_left (fun q => e q.symm)
      have m2 : w - 1 ∈ xs := (List.mem_cons.mp h2).resolve_left (fun q => e2 q.symm)
      have h3' : posI xs w < posI xs (w - 1) := by
        unfold posI at h3
        rw [if_neg e, if_neg e2] at h3
        omega
      have ih := invI_rest n2 m1 m2 h3'
      rw [restR_eq] at ih
      have t1 : tr w x = x := by unfold tr; rw [if_neg e2, if_neg e]
      have hC : xs.countP ((fun y => decide (y < tr w x)) ∘ tr w) = xs.countP (fun y => decide (y < x)) := List.countP_congr fun y hy => by
        have yx : y ≠ x := fun q => n1 (q ▸ hy)
        have : (tr w y < x ↔ y < x) := by
          unfold tr
          split <;> (try split) <;> omega
        simp [t1, this]
      rw [hC]
      omega
theorem invI_plain (n : Nat) : invI (plainR n) = 0 := by
  have key : ∀ (k a : Nat), invI ((List.range' a k).map fun i : Nat => (i : Int)) = 0 := fun k => by
    induction k with
    | zero => intro a; rfl
    | succ k ih =>
      intro a
      rw [List.range'_succ, List.map_cons]
      show List.countP _ _ + invI _ = 0
      rw [ih (a + 1), List.countP_eq_zero.mpr]
      intro y hy
      obtain ⟨i, hi, rfl⟩ := List.mem_map.mp hy
      have := (List.mem_range'_1.mp hi).1
      simp
      omega
  unfold plainR
  rw [List.range_eq_range']
  exact key n 0
theorem rwd_inv {n : Nat} (hn : n ≤ 8) : ∀ {f : Nat} {r : List Int}, Row n r → 512 - Tm 0 r < (f : Int) → (rwd f r).length = invI r
  | 0, r, hr, h => by have := bound hn hr; omega
  | f + 1, r, hr, h => by
    have hb := bound hn hr
    unfold rwd
    cases hs : startsR r with
    | nil =>
      rw [plain_of hr hs, invI_plain]
      rfl
    | cons w vs =>
      have hw : w ∈ startsR r := by rw [hs]; exact List.mem_cons_self
      obtain ⟨h1, h2, h3⟩ := starts_mem hr hw
      have hl := less hn hr hw
      have ih := rwd_inv hn (hr.rest h1 h2) (f := f) (by omega)
      show (rwd f (restR w r)).length + 1 = _
      rw [ih]
      exact invI_rest hr.nd (hr.mem.mpr (by omega)) (hr.mem.mpr (by omega)) h3
end DL
/-! the word of a form, as the laws write it -/
namespace DL
open PySem PySem.Spec PyProof.Rows L2
def halfR (n : Nat) : List Int := (List.range n).map fun k : Nat => (n : Int) - 1 - (k : Int)
theorem halfR_eq (n : Nat) : halfR n = (plainR n).reverse := by
  unfold halfR plainR
  apply List.ext_getElem?
  intro i
  by_cases hi : i < n
  · rw [List.getElem?_map, List.getElem?_range hi, List.getElem?_reverse (by rw [List.length_map, List.length_range]; exact hi), List.getElem?_map, List.length_map, List.length_range, List.getElem?_range (by omega)]
    show some ((n : Int) - 1 - (i : Int)) = some (((n - 1 - i : Nat)) : Int)
    congr 1
    omega
  · rw [List.getElem?_eq_none (by simp; omega), List.getElem?_eq_none (by simp; omega)]
theorem half_row (n : Nat) : Row n (halfR n) := ⟨by rw [halfR_eq]; exact List.reverse_perm _⟩
def wordR (r : List Int) : List Int := rwd 1000 r
theorem wordR_len {n : Nat} {r : List Int} (hn : n ≤ 8) (hr : Row n r) : (wordR r).length ≤ 512 := by
  have hb := bound hn hr
  have := rwd_len hn (f := 1000) hr (by omega)
  unfold wordR
  omega
def turnW (n : Nat) (t : Int) : List Int := if t < 0 then undoneL (wordR (halfR n)) else wordR (halfR n)
def formW (n : Nat) (t : Int) (rows : List (List Int)) : List Int := (List.replicate t.natAbs (turnW n t)).flatten ++ (rows.map wordR).flatten
theorem turnW_len {n : Nat} (hn : n ≤ 8) (t : Int) : (turnW n t).length ≤ 512 := by
  have := wordR_len hn (half_row n)
  unfold turnW
  split
  · unfold undoneL
    rw [List.length_map, List.length_reverse]
    exact this
  · exact this
theorem flat_len {k : Nat} : ∀ {l : List (List Int)}, (∀ x ∈ l, x.length ≤ k) → l.flatten.length ≤ l.length * k
  | [], _ => by simp
  | x :: l, h => by
    have a := h x List.mem_cons_self
    have b := flat_len fun y hy => h y (List.mem_cons_of_mem _ hy)
    rw [List.flatten_cons, List.length_append, List.length_cons, Nat.succ_mul]
    omega
theorem r_form_word {FW FU : FD} {s t : Int} {rows : List (List Int)} (hs1 : 2 ≤ s) (hs2 : s ≤ 8) (ht : t.natAbs ≤ 90) (hrows : rows.length ≤ 90) (hr : ∀ r ∈ rows, Row s.toNat r)
    (hW : ∀ r, Row s.toNat r → FW [wd r] = some (wd (wordR r))) (hU : ∀ ws : List Int, ws.length ≤ 1000 → FU [wd ws] = some (wd (undoneL ws))) :
    runD 7 (G_form_word FW FU) [.int s, .tuple [.int t, .tuple (rows.map wd)]] = some (wd (formW s.toNat t rows)) := by
  have hn : s.toNat ≤ 8 := by omega
  have eh : (List.range s.toNat).map (fun k : Nat => s - 1 - (k : Int)) = halfR s.toNat := by
    unfold halfR
    congr 1
    funext k
    omega
  have w0 := hW (halfR s.toNat) (half_row _)
  have l0 := wordR_len hn (half_row s.toNat)
  have u0 := hU (wordR (halfR s.toNat)) (by omega)
  simp -implicitDefEqProofs [runD_eq, G_form_word, Option.bind_assoc, -List.map_map]
  rw [rg1_ok (by omega) (by omega), Option.bind_some, if_pos (by rw [rgD_len]; omega), rgD0, lcD_all (e := fun i : Nat => PyData.int (i : Int)) (e' := PyData.int) (fun k : Nat => s - 1 - (k : Int))]
  · rw [eh]
    simp -implicitDefEqProofs [w0, -List.map_map, Option.bind_assoc]
    have et : (if t < 0 then -t else t) = ((t.natAbs : Nat) : Int) := by omega
    rw [et, rg1_nat (by omega), Option.bind_some]
    have hturn := turnW_len hn t
    refine forD_all (fun i ρ => ∃ x4, ρ = [Slot.d (.int s), Slot.d (.tuple [.int t, .tuple (rows.map wd)]), Slot.d (wd (wordR (halfR s.toNat))), Slot.d (wd (List.replicate i (turnW s.toNat t)).flatten), x4, .und, .und]) ⟨_, rfl⟩ ?_ ?_
    · rintro i x ρ hi ⟨x4, rfl⟩
      obtain ⟨h5, rfl⟩ := rgD_get hi
      have hl : (List.replicate i (turnW s.toNat t)).flatten.length ≤ 90 * 512 := by
        have q := flat_len (l := List.replicate i (turnW s.toNat t)) (k := 512) fun y hy => by rw [List.eq_of_mem_replicate hy]; exact hturn
        rw [List.length_replicate] at q
        have : i * 512 ≤ 90 * 512 := Nat.mul_le_mul (by omega) (Nat.le_refl _)
        omega
      have e1 : (List.replicate (i + 1) (turnW s.toNat t)).flatten = (List.replicate i (turnW s.toNat t)).flatten ++ turnW s.toNat t := by
        rw [List.replicate_succ', List.flatten_append]
        simp
      refine goes_at (ρ1 := [Slot.d (.int s), Slot.d (.tuple [.int t, .tuple (rows.map wd)]), Slot.d (wd (wordR (halfR s.toNat))), Slot.d (wd (List.replicate i (turnW s.toNat t)).flatten), .d (.int (0 + (i : Int))), .und, .und]) rfl ?_
      refine goes_one ⟨[Slot.d (.int s), Slot.d (.tuple [.int t, .tuple (rows.map wd)]), Slot.d (wd (wordR (halfR s.toNat))), Slot.d (wd (List.replicate (i + 1) (turnW s.toNat t)).flatten), .d (.int (0 + (i : Int))), .und, .und], ?_, _, rfl⟩
      rw [e1]
      generalize (List.replicate i (turnW s.toNat t)).flatten = pre at hl
      unfold turnW at hturn ⊢
      by_cases hneg : t < 0
      · rw [if_pos hneg] at hturn ⊢
        simp -implicitDefEqProofs [u0, hneg, wd]
        omega
      · rw [if_neg hneg] at hturn ⊢
        simp -implicitDefEqProofs [u0, hneg, wd]
        omega
    · rintro ρ ⟨x4, rfl⟩
      rw [rgD_len]
      have hA : (List.replicate t.natAbs (turnW s.toNat t)).flatten.length ≤ 90 * 512 := by
        have q := flat_len (l := List.replicate t.natAbs (turnW s.toNat t)) (k := 512) fun y hy => by rw [List.eq_of_mem_replicate hy]; exact hturn
        rw [List.length_replicate] at q
        have : t.natAbs * 512 ≤ 90 * 512 := Nat.mul_le_mul ht (Nat.le_refl _)
        omega
      unfold formW
      generalize (List.replicate t.natAbs (turnW s.toNat t)).flatten = A at hA
      simp -implicitDefEqProofs [-List.map_map, Option.bind_assoc]
      refine forD_all (fun i ρ => ∃ x5, ρ = [Slot.d (.int s), Slot.d (.tuple [.int t, .tuple (rows.map wd)]), Slot.d (wd (wordR (halfR s.toNat))), Slot.d (wd (A ++ ((rows.take i).map wordR).flatten)), x4, x5, .und]) ⟨.und, by simp⟩ ?_ ?_
      · rintro i x ρ hi ⟨x5, rfl⟩
        obtain ⟨r, hr1, rfl⟩ := map_get hi
        have hrow := hr r (List.mem_of_getElem? hr1)
        have e1 : ((rows.take (i + 1)).map wordR).flatten = ((rows.take i).map wordR).flatten ++ wordR r := by
          rw [List.take_succ, hr1]
          simp
        have hB : ((rows.take i).map wordR).flatten.length ≤ 90 * 512 := by
          have q := flat_len (l := (rows.take i).map wordR) (k := 512) fun y hy => by
            obtain ⟨z, hz, rfl⟩ := List.mem_map.mp hy
            exact wordR_len hn (hr z (List.mem_of_mem_take hz))
          rw [List.length_map, List.length_take] at q
          have : min i rows.length * 512 ≤ 90 * 512 := Nat.mul_le_mul (by omega) (Nat.le_refl _)
          omega
        have hC := wordR_len hn hrow
        have wr := hW r hrow
        refine goes_at (ρ1 := [Slot.d (.int s), Slot.d (.tuple [.int t, .tuple (rows.map wd)]), Slot.d (wd (wordR (halfR s.toNat))), Slot.d (wd (A ++ ((rows.take i).map wordR).flatten)), x4, .d (wd r), .und]) rfl ?_
        refine goes_one ⟨[Slot.d (.int s), Slot.d (.tuple [.int t, .tuple (rows.map wd)]), Slot.d (wd (wordR (halfR s.toNat))), Slot.d (wd (A ++ ((rows.take (i + 1)).map wordR).flatten)), x4, .d (wd r), .und], ?_, _, rfl⟩
        rw [e1]
        generalize ((rows.take i).map wordR).flatten = Bf at hB
        simp -implicitDefEqProofs [wr]
        omega
      · rintro ρ ⟨x5, rfl⟩
        simp -implicitDefEqProofs [List.take_length]
  · intro x hx; simp
  · intro x hx; simp
end DL
/-! the program's words about rows -/
namespace DL
open PySem PySem.Spec PyProof.Rows L2
section
variable {α : Type} {e : α → PyData} {ρ : Rho} {u u1 : FU} {c c1 : Rho → Option Bool} {f : FE} {it1 : Rho → Option (List PyData)} {vs1 : List Nat}
theorem lcG_gen {β : Type} {e' : β → PyData} (U : α → Rho) (cd : α → Bool) (h : α → β) : ∀ {l : List α}, (∀ x ∈ l, u (e x) ρ = some (U x)) → (∀ x ∈ l, c (U x) = some (cd x)) → (∀ x ∈ l, cd x = true → (f (U x)).bind Res.fr = some (e' (h x))) → lcG u c f ρ (l.map e) = some (((l.filter cd).map h).map e')
  | [], _, _, _ => rfl
  | x :: l, h1, h2, h3 => by
    have ih := lcG_gen U cd h (fun y hy => h1 y (List.mem_cons_of_mem _ hy)) (fun y hy => h2 y (List.mem_cons_of_mem _ hy)) (fun y hy => h3 y (List.mem_cons_of_mem _ hy))
    rw [List.map_cons]
    unfold lcG
    rw [h1 x List.mem_cons_self, Option.bind_some, h2 x List.mem_cons_self, Option.bind_some, ih]
    by_cases z : cd x = true
    · obtain ⟨r, r1, r2⟩ := Option.bind_eq_some_iff.mp (h3 x List.mem_cons_self z)
      rw [if_pos z, r1, Option.bind_some, r2, Option.bind_some, List.filter_cons_of_pos z]
      rfl
    · rw [if_neg z, List.filter_cons_of_neg z]
theorem lcG2_gen (U : α → Rho) (cd : α → Bool) (ys D : α → List PyData) : ∀ {l : List α}, (∀ x ∈ l, u (e x) ρ = some (U x)) → (∀ x ∈ l, c (U x) = some (cd x)) → (∀ x ∈ l, cd x = true → it1 (U x) = some (ys x) ∧ lcG u1 c1 f (wipeR (U x) vs1) (ys x) = some (D x)) → lcG2 u c it1 u1 c1 f vs1 ρ (l.map e) = some ((l.filter cd).flatMap D)
  | [], _, _, _ => rfl
  | x :: l, h1, h2, h3 => by
    have ih := lcG2_gen U cd ys D (fun y hy => h1 y (List.mem_cons_of_mem _ hy)) (fun y hy => h2 y (List.mem_cons_of_mem _ hy)) (fun y hy => h3 y (List.mem_cons_of_mem _ hy))
    rw [List.map_cons]
    unfold lcG2
    rw [h1 x List.mem_cons_self, Option.bind_some, h2 x List.mem_cons_self, Option.bind_some, ih]
    by_cases z : cd x = true
    · obtain ⟨r1, r2⟩ := h3 x List.mem_cons_self z
      rw [if_pos z, r1, Option.bind_some, r2, Option.bind_some, List.filter_cons_of_pos z, List.flatMap_cons]
      rfl
    · rw [if_neg z, List.filter_cons_of_neg z]
end
theorem enD_range {r : List Int} : enD 0 (r.map PyData.int) = (List.range r.length).map fun i : Nat => PyData.tuple [.int (i : Int), .int (r.getD i 0)] := by
  apply List.ext_getElem?
  intro i
  rw [enD_get]
  by_cases h : i < r.length
  · rw [List.getElem?_map, List.getElem?_eq_getElem h, List.getElem?_map, List.getElem?_range h]
    simp [List.getD, List.getElem?_eq_getElem h]
  · rw [List.getElem?_eq_none (by rw [List.length_map]; omega), List.getElem?_eq_none (by simp; omega)]
    rfl
/-- plain_row: slots 0 strands -/
def P_plain_row : FS := gRet (fRgT (rg1 (aCons (fVar 0) aNil)))
theorem p_plain_row {s : Int} (hs1 : 0 ≤ s) (hs2 : s ≤ 1000) : runD 1 P_plain_row [.int s] = some (wd (plainR s.toNat)) := by
  have h1 : rg1 (aCons (fVar 0) aNil) [Slot.d (.int s)] = some (rgD 0 s.toNat) := by simp -implicitDefEqProofs; exact rg1_ok (by omega) (by omega)
  have h2 : (rgD 0 s.toNat).length ≤ 100000 := by rw [rgD_len]; omega
  have h3 : rgD 0 s.toNat = (plainR s.toNat).map PyData.int := by rw [rgD0]; simp [plainR]
  show runD 1 (gRet (fRgT (rg1 (aCons (fVar 0) aNil)))) [.int s] = _
  simp -implicitDefEqProofs only [runD_eq, gRet_eq, startR_eq, List.map_cons, List.map_nil, List.length_cons, List.length_nil, List.cons_append, List.nil_append, List.replicate]
  unfold fRgT
  rw [show (Slot.d (.int s) :: List.replicate (1 - (0 + 1)) Slot.und) = [Slot.d (.int s)] from rfl, h1, Option.bind_some, if_pos (show small _ from h2), h3]
  rfl
def P_half_turn (F_plain_row : FD) : FS := gRet (f1 gRev (fCall F_plain_row (aCons (fVar 0) aNil)))
theorem p_half_turn {s : Int} {F : FD} (hF : F [.int s] = some (wd (plainR s.toNat))) : runD 1 (P_half_turn F) [.int s] = some (wd (halfR s.toNat)) := by
  rw [halfR_eq]
  simp -implicitDefEqProofs [runD_eq, P_half_turn, hF]
/-- row_of: slots 0 strands, 1 word, 2 row, 3 letter, 4 at -/
def P_row_of : FS := (gSeq (gSetO 2 (fRgL (rg1 (aCons (fVar 0) aNil))))
    (gSeq (gFor (itF (fVar 1)) (uName 3) (gSeq (gSet 4 (fC1 gAbs (aCons (fVar 3) aNil)))
    (gSwap 2 (f2 gMinus (fVar 4) (fC (.int 1))) (fVar 4) (aCons (f2 gIx (fVar 2) (fVar 4)) (aCons (f2 gIx (fVar 2) (f2 gMinus (fVar 4) (fC (.int 1)))) aNil)))))
    (gRet (fC1 gTuple (aCons (fVar 2) aNil)))))
theorem p_row_of {s : Int} {ws : List Int} (hs1 : 2 ≤ s) (hs2 : s ≤ 1000) (hl : ws.length ≤ 1000) (hw : ∀ w ∈ ws, w ≠ 0 ∧ -s < w ∧ w < s) : runD 5 P_row_of [.int s, wd ws] = some (wd (rowR s.toNat ws)) := by
  simp -implicitDefEqProofs [runD_eq, P_row_of, fRgL, Option.bind_assoc, -List.map_map]
  rw [rg1_ok (by omega) (by omega), Option.bind_some, if_pos (by rw [rgD_len]; omega), rgD0]
  refine forD_all (fun i ρ => ∃ x y, ρ = [Slot.d (.int s), Slot.d (wd ws), Slot.own ((rowR s.toNat (ws.take i)).map PyData.int), x, y]) ⟨.und, .und, by simp [rowR, plainR]⟩ ?_ ?_
  · rintro i x ρ hi ⟨x0, y0, rfl⟩
    obtain ⟨w, hw1, rfl⟩ := map_get hi
    obtain ⟨h0, h1, h2⟩ := hw w (List.mem_of_getElem? hw1)
    have e : rowR s.toNat (ws.take (i + 1)) = swp (rowR s.toNat (ws.take i)) w := by
      unfold rowR
      rw [List.take_succ, hw1, List.foldl_append]
      rfl
    have hlen := rowR_len s.toNat (ws.take i)
    rw [e]
    generalize rowR s.toNat (ws.take i) = r at hlen
    have ea : (if w < 0 then -w else w) = ((w.natAbs : Nat) : Int) := by omega
    have eb : ((w.natAbs : Nat) : Int) - 1 = ((w.natAbs - 1 : Nat) : Int) := by omega
    have l1 : w.natAbs < r.length := by omega
    have l2 : w.natAbs - 1 < r.length := by omega
    have g1 : atI (r.map PyData.int) ((w.natAbs : Nat) : Int) = some (.int (r.getD w.natAbs 0)) := atI_nat (by rw [List.getElem?_map, List.getElem?_eq_getElem l1]; simp [List.getD, List.getElem?_eq_getElem l1])
    have g2 : atI (r.map PyData.int) ((w.natAbs - 1 : Nat) : Int) = some (.int (r.getD (w.natAbs - 1) 0)) := atI_nat (by rw [List.getElem?_map, List.getElem?_eq_getElem l2]; simp [List.getD, List.getElem?_eq_getElem l2])
    refine goes_at (ρ1 := [Slot.d (.int s), Slot.d (wd ws), Slot.own (r.map PyData.int), Slot.d (.int w), y0]) rfl ?_
    refine goes_seq (fun ρ => ρ = [Slot.d (.int s), Slot.d (wd ws), Slot.own (r.map PyData.int), Slot.d (.int w), Slot.d (.int ((w.natAbs : Nat) : Int))]) ⟨_, by simp -implicitDefEqProofs [ea], rfl⟩ ?_
    rintro ρ rfl
    refine goes_one ⟨[Slot.d (.int s), Slot.d (wd ws), Slot.own ((swp r w).map PyData.int), Slot.d (.int w), Slot.d (.int ((w.natAbs : Nat) : Int))], ?_, _, _, rfl⟩
    simp -implicitDefEqProofs [gSwap, eb, g1, g2, ixN_nat l1, ixN_nat l2, swp]
  · rintro ρ ⟨x, y, rfl⟩
    simp -implicitDefEqProofs
/-- crossings: slots 0 row, 1 later, 2 place, 3 strand -/
def P_crossings : FS := (gRet (fC1 gSum (aCons (fLc2 (enYR (aCons (fVar 0) aNil)) (uTp 2 (uNs [2, 3])) cYes (itF (fSl (fVar 0) (oSome (f2 gAdd (fVar 2) (fC (.int 1)))) oNone)) (uName 1) (fB (f2 gGt (fVar 3) (fVar 1))) (fC (.int 1)) [2, 3, 1] [1]) aNil)))
theorem inv_sum (r : List Int) : ((List.range r.length).map fun i => (r.drop (i + 1)).countP fun y => decide (y < r.getD i 0)).sum = invI r := by
  induction r with
  | nil => rfl
  | cons x r ih =>
    rw [List.length_cons, List.range_succ_eq_map, List.map_cons, List.map_map, List.sum_cons]
    show _ = r.countP (fun y => decide (y < x)) + invI r
    rw [← ih]
    congr 1
theorem p_crossings {n : Nat} {r : List Int} (hr : Row n r) (hn : n ≤ 8) : runD 4 P_crossings [wd r] = some (.int (invI r : Nat)) := by
  have hl := hr.len
  have hb : invI r ≤ 512 := by
    have h1 := rwd_inv hn (f := 1000) hr (by have := bound hn hr; omega)
    have h2 := rwd_len hn (f := 1000) hr (by have := bound hn hr; omega)
    have h3 := bound hn hr
    omega
  have hs := inv_sum r
  obtain ⟨cnt, hc⟩ : ∃ cnt : Nat → Nat, cnt = fun i => (r.drop (i + 1)).countP fun y => decide (y < r.getD i 0) := ⟨_, rfl⟩
  rw [← hc] at hs
  have key : lcG2 (uTp 2 (uNs [2, 3])) cYes (itF (fSl (fVar 0) (oSome (f2 gAdd (fVar 2) (fC (.int 1)))) oNone)) (uName 1) (fB (f2 gGt (fVar 3) (fVar 1))) (fC (.int 1)) [1] [Slot.d (wd r), .und, .und, .und] (enD 0 (r.map PyData.int)) =
      some ((List.range r.length).flatMap fun i => List.replicate (cnt i) (PyData.int 1)) := by
    rw [enD_range, lcG2_gen (fun i : Nat => [Slot.d (wd r), .und, .d (.int (i : Int)), .d (.int (r.getD i 0))]) (fun _ => true) (fun i : Nat => (r.drop (i + 1)).map PyData.int) (fun i : Nat => List.replicate (cnt i) (PyData.int 1))]
    · rw [List.filter_eq_self.mpr (fun _ _ => rfl)]
    · intro i hi; rfl
    · intro i hi; rfl
    · intro i hi _
      have e1 : ((i : Int) + 1) = ((i + 1 : Nat) : Int) := by omega
      have e2 : cutD (r.map PyData.int) (some ((i + 1 : Nat) : Int)) none = (r.drop (i + 1)).map PyData.int := by
        rw [cut_from (by omega), Int.toNat_natCast, List.map_drop]
      refine ⟨?_, ?_⟩
      · show some (cutD (r.map PyData.int) (some ((i : Int) + 1)) none) = _
        rw [e1, e2]
      rw [lcG_gen (e' := fun _ : Int => PyData.int 1) (fun y => [Slot.d (wd r), .d (.int y), .d (.int (i : Int)), .d (.int (r.getD i 0))]) (fun y => decide (y < r.getD i 0)) (fun y => y)]
      · rw [hc]
        simp only [List.map_id', List.countP_eq_length_filter]
        congr 1
        rw [List.map_const']
      · intro y hy; rfl
      · intro y hy; simp -implicitDefEqProofs
      · intro y hy _; rfl
  have hlen : ((List.range r.length).flatMap fun i => List.replicate (cnt i) (PyData.int 1)).length = invI r := by
    rw [List.length_flatMap, ← hs]
    congr 1
    apply List.map_congr_left
    intro i _
    rw [List.length_replicate]
  have hint : (List.range r.length).flatMap (fun i => List.replicate (cnt i) (PyData.int 1)) = (List.replicate (invI r) (1 : Int)).map PyData.int := by
    rw [List.map_replicate]
    apply List.eq_replicate_iff.mpr
    refine ⟨hlen, fun b hb => ?_⟩
    obtain ⟨i, _, h⟩ := List.mem_flatMap.mp hb
    exact List.eq_of_mem_replicate h
  simp -implicitDefEqProofs [runD_eq, P_crossings, fLc2, enYR, wipeR, Option.bind_assoc]
  rw [key, Option.bind_some, if_pos (by rw [hlen]; omega), hint]
  simp -implicitDefEqProofs [gSum, intsOf_map, -List.map_replicate]
/-- starts: slots 0 row, 1 places, 2 letter -/
def P_starts (F_places_of : FD) : FS := (gSeq (gSet 1 (fCallN F_places_of (aCons (fVar 0) aNil)))
    (gRet (fLc (rg2 (aCons (fC (.int 1)) (aCons (fC1 gLen (aCons (fVar 0) aNil)) aNil))) 2 (fB (f2 gGt (f2 gIx (fVar 1) (f2 gMinus (fVar 2) (fC (.int 1)))) (f2 gIx (fVar 1) (fVar 2)))) (fVar 2) [2])))
theorem p_starts {n : Nat} {r : List Int} {F : FD} (hr : Row n r) (hn : n ≤ 1000) (hF : F [wd r] = some (.list ((plR r).map PyData.int))) : runD 3 (P_starts F) [wd r] = some (.list ((startsR r).map PyData.int)) := by
  have hl := hr.len
  have h1 : rg2 (aCons (fC (.int 1)) (aCons (fC1 gLen (aCons (fVar 0) aNil)) aNil)) [Slot.d (wd r), .d (.list ((plR r).map PyData.int)), .und] = some (rgD 1 (r.length - 1)) := rg2_len (by omega) (by simp -implicitDefEqProofs)
  have h2 : gSet 1 (fCallN F (aCons (fVar 0) aNil)) [Slot.d (wd r), .und, .und] = some (.nx [Slot.d (wd r), .d (.list ((plR r).map PyData.int)), .und]) := by
    simp -implicitDefEqProofs [fCallN, hF, -List.map_map]
    rfl
  have h3 : fLc (rg2 (aCons (fC (.int 1)) (aCons (fC1 gLen (aCons (fVar 0) aNil)) aNil))) 2 (fB (f2 gGt (f2 gIx (fVar 1) (f2 gMinus (fVar 2) (fC (.int 1)))) (f2 gIx (fVar 1) (fVar 2)))) (fVar 2) [2] [Slot.d (wd r), .d (.list ((plR r).map PyData.int)), .und] = some (.nw ((startsR r).map PyData.int)) := by
    rw [fLc_eq, h1, Option.bind_some, if_pos (by rw [rgD_len]; omega), rgD1, lcD_gen (e := fun i : Nat => PyData.int ((i : Int) + 1)) (e' := PyData.int) (fun i => decide (posI r ((i : Int) + 1) < posI r (i : Int))) (fun i : Nat => (i : Int) + 1)]
    · rfl
    · intro x hx
      have hx' := List.mem_range.mp hx
      have g1 : atI ((plR r).map PyData.int) (x : Int) = some (.int (posI r (x : Int) : Nat)) := atI_nat (by rw [List.getElem?_map, plR_get (by omega)]; rfl)
      have g2 : atI ((plR r).map PyData.int) ((x + 1 : Nat) : Int) = some (.int (posI r ((x + 1 : Nat) : Int) : Nat)) := atI_nat (by rw [List.getElem?_map, plR_get (by omega)]; rfl)
      have e1 : ((x + 1 : Nat) : Int) = (x : Int) + 1 := by omega
      have e2 : (x : Int) + 1 - 1 = (x : Int) := by omega
      rw [e1] at g2
      simp -implicitDefEqProofs [g1, g2, e2, wipeR, -List.map_map]
    · intro x hx _; simp [wipeR]
  show ((P_starts F) [Slot.d (wd r), .und, .und]).bind _ = _
  unfold P_starts
  show ((gSet 1 (fCallN F (aCons (fVar 0) aNil)) [Slot.d (wd r), .und, .und]).bind _).bind _ = _
  rw [h2, Option.bind_some]
  show ((gRet _ [Slot.d (wd r), .d (.list ((plR r).map PyData.int)), .und])).bind _ = _
  rw [gRet_eq, h3]
  rfl
/-- followed: slots 0 row, 1 other, 2 place -/
def P_followed : FS := (gRet (fC1 gTuple (aCons (fLc (itR (fVar 1)) 2 cYes (f2 gIx (fVar 0) (fVar 2)) [2]) aNil)))
def folR (r o : List Int) : List Int := o.map fun p => r.getD p.toNat 0
theorem p_followed {n : Nat} {r o : List Int} (hr : r.length = n) (ho : Row n o) (hn : n ≤ 1000) : runD 3 P_followed [wd r, wd o] = some (wd (folR r o)) := by
  have hl := ho.len
  have h3 : fLc (itR (fVar 1)) 2 cYes (f2 gIx (fVar 0) (fVar 2)) [2] [Slot.d (wd r), .d (wd o), .und] = some (.nw ((folR r o).map PyData.int)) := by
    rw [fLc_eq, show itR (fVar 1) [Slot.d (wd r), .d (wd o), .und] = some (o.map PyData.int) from rfl, Option.bind_some, if_pos (by rw [List.length_map]; omega), lcD_all (e' := PyData.int) (fun p : Int => r.getD p.toNat 0)]
    · rfl
    · intro x hx; rfl
    · intro x hx
      have hx' := ho.mem.mp hx
      obtain ⟨k, rfl⟩ := Int.eq_ofNat_of_zero_le hx'.1
      have g1 := atI_int (r := r) (i := k) (by omega)
      simp -implicitDefEqProofs [g1, wipeR, -List.map_map]
  show ((gRet _ [Slot.d (wd r), .d (wd o), .und])).bind _ = _
  rw [gRet_eq, fC1_eq, aCons_eq, h3]
  rfl
theorem fold_fol {n : Nat} {r ws : List Int} (hr : r.length = n) (hw : ∀ w ∈ ws, w.natAbs < n) : ws.foldl swp r = folR r (rowR n ws) := by
  have e : r = (plainR n).map fun p => r.getD p.toNat 0 := by
    apply List.ext_getElem?
    intro i
    unfold plainR
    by_cases h : i < n
    · rw [List.map_map, List.getElem?_map, List.getElem?_range h, List.getElem?_eq_getElem (by omega)]
      simp [List.getD, List.getElem?_eq_getElem (show i < r.length by omega)]
    · rw [List.getElem?_eq_none (by omega), List.getElem?_eq_none (by simp; omega)]
  have h := fold_map (f := fun p => r.getD p.toNat 0) (n := n) (ws := ws) (r := plainR n) (plainR_len n) hw
  rw [← e] at h
  exact h
end DL
/-! the laws' comparison of values with their kinds: numbers, words, lists of numbers -/
namespace DL
open PySem PySem.Spec PyProof.Rows L2
/-- slots 0 told, 1 due, 2 k -/
def G_same (F__law_same : FD) : FS := (gSeq (gIf (tOrF (fTru (f1 (gIsi "tuple") (fVar 1))) (fTru (f1 (gIsi "list") (fVar 1)))) (gSeq (gIf (tOrF (fB (f2 gNe (f1 (gIsi "tuple") (fVar 1)) (f1 (gIsi "tuple") (fVar 0)))) (fB (f2 gNe (f1 (gIsi "list") (fVar 1)) (f1 (gIsi "list") (fVar 0))))) (gRet (fC (.bool false))) DL.gNil)
    (gSeq (gIf (fB (f2 gNe (fC1 gLen (aCons (fVar 0) aNil)) (fC1 gLen (aCons (fVar 1) aNil)))) (gRet (fC (.bool false))) DL.gNil)
    (gRet (f2 gEq (fLc (rg1 (aCons (fC1 gLen (aCons (fVar 1) aNil)) aNil)) 2 (tNotF (fTru (fCall F__law_same (aCons (f2 gIx (fVar 0) (fVar 2)) (aCons (f2 gIx (fVar 1) (fVar 2)) aNil))))) (fVar 2) [2]) (fLst aNil))))) DL.gNil)
    (gSeq (gIf (fTru (f1 (gIsi "int") (fVar 1))) (gRet (fAnd (f1 (gIsi "int") (fVar 0)) (fAnd (fNot (f1 (gIsi "bool") (fVar 0))) (f2 gEq (fVar 0) (fVar 1))))) DL.gNil)
    (gRet (f2 gEq (fVar 0) (fVar 1)))))
/-- slots 0 told, 1 due -/
def G_says : FS := (gRet (fAnd (f1 (gIsi "bool") (fVar 0)) (f2 gEq (fVar 0) (fVar 1))))
theorem r_says {b c : Bool} : runD 2 G_says [.bool b, .bool c] = some (.bool (decide (b = c))) := by
  simp -implicitDefEqProofs [runD_eq, G_says]
theorem r_same_int {F : FD} {i j : Int} : runD 3 (G_same F) [.int i, .int j] = some (.bool (decide (i = j))) := by
  simp -implicitDefEqProofs [runD_eq, G_same]
/-- the places at which two lists of numbers differ -/
def diffs (us vs : List Int) : List Nat := (List.range vs.length).filter fun i => !decide (us[i]? = vs[i]?)
theorem diffs_nil {us vs : List Int} (h : us.length = vs.length) : diffs us vs = [] ↔ us = vs := by
  unfold diffs
  rw [List.filter_eq_nil_iff]
  constructor
  · intro q
    apply List.ext_getElem?
    intro i
    by_cases hi : i < vs.length
    · have := q i (List.mem_range.mpr hi)
      simpa using this
    · rw [List.getElem?_eq_none (by omega), List.getElem?_eq_none (by omega)]
  · intro q i _
    rw [q]
    simp
theorem diffs_lc {F : FD} {us vs : List Int} {c1 c2 : List PyData → PyData} (hF : ∀ i j : Int, F [.int i, .int j] = some (.bool (decide (i = j)))) (hl : us.length = vs.length)
    (g1 : ∀ (xs : List PyData) (j : Int), gIx (c1 xs) (.int j) = (atI xs j).map .fz) (g2 : ∀ (xs : List PyData) (j : Int), gIx (c2 xs) (.int j) = (atI xs j).map .fz) :
    lcD 2 (tNotF (fTru (fCall F (aCons (f2 gIx (fVar 0) (fVar 2)) (aCons (f2 gIx (fVar 1) (fVar 2)) aNil))))) (fVar 2) [Slot.d (c1 (us.map PyData.int)), .d (c2 (vs.map PyData.int)), .und] (rgD 0 vs.length) = some (((diffs us vs).map fun i : Nat => (i : Int)).map PyData.int) := by
  rw [rgD0, lcD_gen (e := fun i : Nat => PyData.int (i : Int)) (e' := PyData.int) (fun i => !decide (us[i]? = vs[i]?)) (fun i : Nat => (i : Int))]
  · rfl
  · intro i hi
    have hi' := List.mem_range.mp hi
    have a1 := atI_int (r := us) (i := i) (by omega)
    have a2 := atI_int (r := vs) (i := i) (by omega)
    have b1 : us.getD i 0 = us[i]'(by omega) := by simp [List.getD, List.getElem?_eq_getElem (show i < us.length by omega)]
    have b2 : vs.getD i 0 = vs[i] := by simp [List.getD, List.getElem?_eq_getElem hi']
    rw [b1] at a1
    rw [b2] at a2
    simp -implicitDefEqProofs [g1, g2, a1, a2, hF, hi', show i < us.length by omega]
  · intro i hi _; simp
theorem r_same_word {F : FD} {us vs : List Int} (h : vs.length ≤ 1000) (hF : ∀ i j : Int, F [.int i, .int j] = some (.bool (decide (i = j)))) : runD 3 (G_same F) [wd us, wd vs] = some (.bool (decide (us = vs))) := by
  by_cases hl : us.length = vs.length
  · have q := diffs_lc (c1 := .tuple) (c2 := .tuple) hF hl (fun _ _ => rfl) (fun _ _ => rfl)
    have hd := diffs_nil hl
    have hl' : ((us.length : Nat) : Int) = ((vs.length : Nat) : Int) := by omega
    have z : vs.length ≤ 100000 := by omega
    simp -implicitDefEqProofs [runD_eq, G_same, hl', rg1_nat (show vs.length ≤ 1000000 by omega), rgD_len, z, -List.map_map]
    rw [q]
    simp -implicitDefEqProofs [-List.map_map]
    by_cases e : us = vs
    · have := hd.mpr e
      subst e
      simp [this]
    · have : ¬ diffs us vs = [] := fun w => e (hd.mp w)
      simp [this, e]
  · have hl' : ¬ ((us.length : Nat) : Int) = ((vs.length : Nat) : Int) := by omega
    have e : ¬ us = vs := fun w => hl (by rw [w])
    simp -implicitDefEqProofs [runD_eq, G_same, hl', e]
theorem r_same_list {F : FD} {us vs : List Int} (h : vs.length ≤ 1000) (hF : ∀ i j : Int, F [.int i, .int j] = some (.bool (decide (i = j)))) : runD 3 (G_same F) [.list (us.map PyData.int), .list (vs.map PyData.int)] = some (.bool (decide (us = vs))) := by
  by_cases hl : us.length = vs.length
  · have q := diffs_lc (c1 := .list) (c2 := .list) hF hl (fun _ _ => rfl) (fun _ _ => rfl)
    have hd := diffs_nil hl
    have hl' : ((us.length : Nat) : Int) = ((vs.length : Nat) : Int) := by omega
    have z : vs.length ≤ 100000 := by omega
    simp -implicitDefEqProofs [runD_eq, G_same, hl', rg1_nat (show vs.length ≤ 1000000 by omega), rgD_len, z, -List.map_map]
    rw [q]
    simp -implicitDefEqProofs [-List.map_map]
    by_cases e : us = vs
    · have := hd.mpr e
      subst e
      simp [this]
    · have : ¬ diffs us vs = [] := fun w => e (hd.mp w)
      simp [this, e]
  · have hl' : ¬ ((us.length : Nat) : Int) = ((vs.length : Nat) : Int) := by omega
    have e : ¬ us = vs := fun w => hl (by rw [w])
    simp -implicitDefEqProofs [runD_eq, G_same, hl', e]
end DL
namespace K04
open PySem PySem.Spec PyProof.Rows L2 DL
theorem mixed_at {c t : Int} : R__law_mixed [.int c, .int t] = some (.int (mixed c t)) := r_mixed c t
theorem word_at {v s m : Int} (h1 : 2 ≤ s) (h2 : s ≤ 1000) (h3 : 0 ≤ m) (h4 : m ≤ 1000) : R__law_word [.int v, .int s, .int m] = some (wd (lword v s m)) := r_word v s m h1 h2 h3 h4
theorem same1 {i j : Int} : R__law_same_1 [.int i, .int j] = some (.bool (decide (i = j))) := r_same_int (F := R__law_same_0)
theorem same_int {i j : Int} : R__law_same [.int i, .int j] = some (.bool (decide (i = j))) := by unfold R__law_same R__law_same_2; exact r_same_int (i := i) (j := j)
theorem same_word {us vs : List Int} (h : vs.length ≤ 1000) : R__law_same [wd us, wd vs] = some (.bool (decide (us = vs))) := r_same_word h fun _ _ => same1
theorem same_list {us vs : List Int} (h : vs.length ≤ 1000) : R__law_same [.list (us.map PyData.int), .list (vs.map PyData.int)] = some (.bool (decide (us = vs))) := r_same_list h fun _ _ => same1
theorem starts_at {n : Nat} {r : List Int} (hr : Row n r) (hn : n ≤ 1000) : R__law_starts [wd r] = some (.list ((startsR r).map PyData.int)) := r_starts hr hn
theorem rest_at {w : Int} {r : List Int} (hl : r.length ≤ 1000) : R__law_rest [wd r, .int w] = some (wd (restR w r)) := r_rest hl
theorem rowword_at {n : Nat} {r : List Int} (hn : n ≤ 8) (hr : Row n r) : R__law_row_word [wd r] = some (wd (rwd 1000 r)) := r_row_word hn (fun r h => starts_at h (by omega)) (fun r w h => rest_at (by rw [h.len]; omega)) hr
theorem row_at {s : Int} {ws : List Int} (hs1 : 2 ≤ s) (hs2 : s ≤ 1000) (hl : ws.length ≤ 1000) (hw : ∀ w ∈ ws, w ≠ 0 ∧ -s < w ∧ w < s) : R__law_row [.int s, wd ws] = some (wd (rowR s.toNat ws)) := r_row hs1 hs2 hl hw
theorem drawn_at {v s : Int} (hs1 : 2 ≤ s) (hs2 : s ≤ 1000) : ∃ r, Row s.toNat r ∧ R__law_drawn_row [.int v, .int s] = some (wd r) := r_drawn_row hs1 hs2
theorem lends_at {r : List Int} (hl : r.length ≤ 1000) : R__law_ends [wd r] = some (.list ((endsR r).map PyData.int)) := r_ends hl
theorem pplain_at {s : Int} (hs1 : 0 ≤ s) (hs2 : s ≤ 1000) : R_plain_row [.int s] = some (wd (plainR s.toNat)) := p_plain_row hs1 hs2
theorem phalf_at {s : Int} (hs1 : 0 ≤ s) (hs2 : s ≤ 1000) : R_half_turn [.int s] = some (wd (halfR s.toNat)) := p_half_turn (pplain_at hs1 hs2)
theorem prow_at {s : Int} {ws : List Int} (hs1 : 2 ≤ s) (hs2 : s ≤ 1000) (hl : ws.length ≤ 1000) (hw : ∀ w ∈ ws, w ≠ 0 ∧ -s < w ∧ w < s) : R_row_of [.int s, wd ws] = some (wd (rowR s.toNat ws)) := p_row_of hs1 hs2 hl hw
theorem pcross_at {n : Nat} {r : List Int} (hr : Row n r) (hn : n ≤ 8) : R_crossings [wd r] = some (.int (invI r : Nat)) := p_crossings hr hn
theorem pplaces_at {n : Nat} {r : List Int} (hr : Row n r) (hn : n ≤ 1000) : R_places_of [wd r] = some (.list ((plR r).map PyData.int)) := p_places hr hn
theorem pstarts_at {n : Nat} {r : List Int} (hr : Row n r) (hn : n ≤ 1000) : R_starts [wd r] = some (.list ((startsR r).map PyData.int)) := p_starts hr hn (pplaces_at hr hn)
theorem pends_at {r : List Int} (hl : r.length ≤ 1000) : R_ends [wd r] = some (.list ((endsR r).map PyData.int)) := r_ends hl
theorem pfol_at {n : Nat} {r o : List Int} (hr : r.length = n) (ho : Row n o) (hn : n ≤ 1000) : R_followed [wd r, wd o] = some (wd (folR r o)) := p_followed hr ho hn
theorem cnt_at {r : List Int} {j : Nat} (hj : j < r.length) : ((List.range (r.length - (j + 1))).filter fun k => decide (r.getD (j + 1 + k) 0 < r.getD j 0)).length + invI (r.drop (j + 1)) = invI (r.drop j) := by
  have e : r.drop (j + 1) = (List.range (r.length - (j + 1))).map fun k => r.getD (j + 1 + k) 0 := by
    apply List.ext_getElem?
    intro k
    by_cases hk : k < r.length - (j + 1)
    · rw [List.getElem?_drop, List.getElem?_map, List.getElem?_range hk]
      simp [List.getD, List.getElem?_eq_getElem (show j + 1 + k < r.length by omega)]
    · rw [List.getElem?_eq_none (by rw [List.length_drop]; omega), List.getElem?_eq_none (by simp; omega)]
  have e2 : r.drop j = r.getD j 0 :: r.drop (j + 1) := by
    rw [List.drop_eq_getElem_cons hj]
    simp [List.getD, List.getElem?_eq_getElem hj]
  rw [e2]
  show _ = (r.drop (j + 1)).countP (fun y => decide (y < r.getD j 0)) + invI (r.drop (j + 1))
  congr 1
  rw [e, List.countP_map, List.countP_eq_length_filter]
  rfl
theorem law_at (ns : List Int) (hn : ns.length ≤ 63) : R_law [.list (ns.map .int)] = some (.bool true) := by
  have MXg : ∀ c t : Int, R__law_mixed [.int c, .int t] = some (.int (mixed c t)) := fun c t => mixed_at
  have WDg : ∀ v s m : Int, 2 ≤ s → s ≤ 1000 → 0 ≤ m → m ≤ 1000 → R__law_word [.int v, .int s, .int m] = some (wd (lword v s m)) := fun v s m h1 h2 h3 h4 => word_at h1 h2 h3 h4
  have DRg : ∀ v s : Int, 2 ≤ s → s ≤ 1000 → ∃ r, Row s.toNat r ∧ R__law_drawn_row [.int v, .int s] = some (wd r) := fun v s h1 h2 => drawn_at h1 h2
  have LWg : ∀ {n : Nat} {r : List Int}, n ≤ 8 → Row n r → R__law_row_word [wd r] = some (wd (rwd 1000 r)) := rowword_at
  have ROg : ∀ {s : Int} {ws : List Int}, 2 ≤ s → s ≤ 1000 → ws.length ≤ 1000 → (∀ w ∈ ws, w ≠ 0 ∧ -s < w ∧ w < s) → R__law_row [.int s, wd ws] = some (wd (rowR s.toNat ws)) := row_at
  have POg : ∀ {s : Int} {ws : List Int}, 2 ≤ s → s ≤ 1000 → ws.length ≤ 1000 → (∀ w ∈ ws, w ≠ 0 ∧ -s < w ∧ w < s) → R_row_of [.int s, wd ws] = some (wd (rowR s.toNat ws)) := prow_at
  have PPg : ∀ {s : Int}, 0 ≤ s → s ≤ 1000 → R_plain_row [.int s] = some (wd (plainR s.toNat)) := pplain_at
  have PHg : ∀ {s : Int}, 0 ≤ s → s ≤ 1000 → R_half_turn [.int s] = some (wd (halfR s.toNat)) := phalf_at
  have PCg : ∀ {n : Nat} {r : List Int}, Row n r → n ≤ 8 → R_crossings [wd r] = some (.int (invI r : Nat)) := pcross_at
  have PSg : ∀ {n : Nat} {r : List Int}, Row n r → n ≤ 1000 → R_starts [wd r] = some (.list ((startsR r).map PyData.int)) := pstarts_at
  have LSg : ∀ {n : Nat} {r : List Int}, Row n r → n ≤ 1000 → R__law_starts [wd r] = some (.list ((startsR r).map PyData.int)) := starts_at
  have PEg : ∀ {r : List Int}, r.length ≤ 1000 → R_ends [wd r] = some (.list ((endsR r).map PyData.int)) := pends_at
  have LEg : ∀ {r : List Int}, r.length ≤ 1000 → R__law_ends [wd r] = some (.list ((endsR r).map PyData.int)) := lends_at
  have PFg : ∀ {n : Nat} {r o : List Int}, r.length = n → Row n o → n ≤ 1000 → R_followed [wd r, wd o] = some (wd (folR r o)) := pfol_at
  have SMg : ∀ us : List Int, us.length ≤ 1000 → R__law_same [wd us, wd us] = some (.bool true) := fun us h => by rw [same_word h, decide_eq_true rfl]
  have SIg : ∀ i : Int, R__law_same [.int i, .int i] = some (.bool true) := fun i => by rw [same_int, decide_eq_true rfl]
  have SLg : ∀ us : List Int, us.length ≤ 1000 → R__law_same [.list (us.map PyData.int), .list (us.map PyData.int)] = some (.bool true) := fun us h => by rw [same_list h, decide_eq_true rfl]
  simp -implicitDefEqProofs [R_law, runD_eq, g_law, Option.bind_assoc]
  generalize R__law_mixed = FM at MXg ⊢
  generalize R__law_word = FWD at WDg ⊢
  generalize R__law_drawn_row = FD' at DRg ⊢
  generalize R__law_row_word = FR at LWg ⊢
  generalize R__law_row = FO at ROg ⊢
  generalize R_row_of = PO at POg ⊢
  generalize R_plain_row = PP at PPg ⊢
  generalize R_half_turn = PH at PHg ⊢
  generalize R_crossings = PC at PCg ⊢
  generalize R_starts = PS' at PSg ⊢
  generalize R__law_starts = LS at LSg ⊢
  generalize R_ends = PE' at PEg ⊢
  generalize R__law_ends = LE at LEg ⊢
  generalize R_followed = PF at PFg ⊢
  generalize R__law_same = FS at SMg SIg SLg ⊢
  refine forD_all (fun i ρ => ∃ (v1 v2 v3 v4 v5 v6 v7 v8 v9 v10 v11 v12 : Slot), ρ = [Slot.d (PyData.list (List.map PyData.int ns)), v1, v2, v3, v4, v5, v6, v7, v8, v9, v10, v11, v12]) ⟨_, _, _, _, _, _, _, _, _, _, _, _, rfl⟩ ?_ ?_
  · rintro i x ρ hi ⟨v1, v2, v3, v4, v5, v6, v7, v8, v9, v10, v11, v12, rfl⟩
    obtain ⟨y, hy, rfl⟩ := enD_at hi
    rw [cut_map] at hy
    obtain ⟨z, hz, rfl⟩ := map_get hy
    have q0 := MXg z (i : Int)
    obtain ⟨v, hv⟩ : ∃ v, v = mixed z i := ⟨_, rfl⟩
    rw [← hv] at q0
    have hv1 := Int.emod_nonneg v (show (7 : Int) ≠ 0 by omega)
    have hv2 := Int.emod_lt_of_pos v (show (0 : Int) < 7 by omega)
    obtain ⟨s, hs⟩ : ∃ s, s = 2 + v % 7 := ⟨_, rfl⟩
    have hs1 : 2 ≤ s := by omega
    have hs2 : s ≤ 8 := by omega
    have q1 := WDg (v / 7) s 20 hs1 (by omega) (by omega) (by omega)
    have wl : (lword (v / 7) s 20).length ≤ 20 := by have := lword_len (v := v / 7) (s := s) (show (0 : Int) ≤ 20 by omega); omega
    have wm : ∀ w ∈ lword (v / 7) s 20, w ≠ 0 ∧ -s < w ∧ w < s := fun w h => lword_mem hs1 h
    generalize lword (v / 7) s 20 = W at q1 wl wm
    obtain ⟨r, hr, q2⟩ := DRg (v / 13) s hs1 (by omega)
    have hn8 : s.toNat ≤ 8 := by omega
    have hl := hr.len
    have q3 := LWg hn8 hr
    have hb := bound hn8 hr
    obtain ⟨ok1, ok2⟩ := rwd_ok hn8 (f := 1000) hr (by omega)
    have ol := rwd_len hn8 (f := 1000) hr (by omega)
    have okm : ∀ w ∈ rwd 1000 r, w ≠ 0 ∧ -s < w ∧ w < s := fun w hw => by have := ok1 w hw; omega
    have q4 := ROg (ws := W ++ rwd 1000 r) hs1 (by omega) (by rw [List.length_append]; omega) fun w hw => by
      rcases List.mem_append.mp hw with h | h
      · exact wm w h
      · exact okm w h
    have eF : rowR s.toNat (W ++ rwd 1000 r) = folR (rowR s.toNat W) r := by
      unfold rowR
      rw [List.foldl_append]
      have := fold_fol (n := s.toNat) (r := rowR s.toNat W) (ws := rwd 1000 r) (rowR_len _ _) fun w hw => by have := ok1 w hw; omega
      rw [ok2] at this
      exact this
    rw [eF] at q4
    have q5 := ROg (ws := W) hs1 (by omega) (by omega) wm
    have q6 := POg (ws := W) hs1 (by omega) (by omega) wm
    have q7 := PFg (r := rowR s.toNat W) (rowR_len _ _) hr (by omega)
    have q8 := PCg hr hn8
    have q9 := PSg hr (by omega)
    have q10 := LSg hr (by omega)
    have q11 := PEg (r := r) (by omega)
    have q12 := LEg (r := r) (by omega)
    have s1 := SMg (plainR s.toNat) (by rw [plainR_len]; omega)
    have s2 := SMg (halfR s.toNat) (by rw [(half_row _).len]; omega)
    have s3 := SMg (rowR s.toNat W) (by rw [rowR_len]; omega)
    have s4 := SIg (invI r : Nat)
    have s5 := SLg (startsR r) (by unfold startsR; rw [List.length_map]; exact Nat.le_trans (List.length_filter_le _ _) (by rw [List.length_range]; omega))
    have s6 := SLg (endsR r) (by unfold endsR; rw [List.length_map]; exact Nat.le_trans (List.length_filter_le _ _) (by rw [List.length_range]; omega))
    have s7 := SMg (folR (rowR s.toNat W) r) (by unfold folR; rw [List.length_map]; omega)
    have q13 := PPg (s := s) (by omega) (by omega)
    have q14 := PHg (s := s) (by omega) (by omega)
    have aW : gAdd (wd W) (wd (rwd 1000 r)) = some (.fz (wd (W ++ rwd 1000 r))) := by rw [gAdd_wd, if_pos (show _ ≤ 100000 by omega)]
    clear ok1 ok2 ol okm eF
    generalize folR (rowR s.toNat W) r = FL at *
    generalize rowR s.toNat W = RW at *
    generalize W ++ rwd 1000 r = WR at *
    generalize rwd 1000 r = WO at *
    refine goes_at (ρ1 := [Slot.d (PyData.list (List.map PyData.int ns)), .d (.int (i : Int)), .d (.int z), v3, v4, v5, v6, v7, v8, v9, v10, v11, v12]) rfl ?_
    refine goes_seq (fun ρ => ρ = [Slot.d (PyData.list (List.map PyData.int ns)), .d (.int (i : Int)), .d (.int z), .d (.int v), v4, v5, v6, v7, v8, v9, v10, v11, v12]) ⟨_, by simp -implicitDefEqProofs [q0], rfl⟩ ?_
    rintro ρ rfl
    refine goes_seq (fun ρ => ρ = [Slot.d (PyData.list (List.map PyData.int ns)), .d (.int (i : Int)), .d (.int z), .d (.int v), .d (.int s), v5, v6, v7, v8, v9, v10, v11, v12]) ⟨_, by simp -implicitDefEqProofs [← hs], rfl⟩ ?_
    rintro ρ rfl
    refine goes_seq (fun ρ => ρ = [Slot.d (PyData.list (List.map PyData.int ns)), .d (.int (i : Int)), .d (.int z), .d (.int v), .d (.int s), .d (wd W), v6, v7, v8, v9, v10, v11, v12]) ⟨_, by simp -implicitDefEqProofs [q1], rfl⟩ ?_
    rintro ρ rfl
    have p1 : fLc (rg1 (aCons (fVar 4) aNil)) 12 cYes (fVar 12) [12] [Slot.d (PyData.list (List.map PyData.int ns)), .d (.int (i : Int)), .d (.int z), .d (.int v), .d (.int s), .d (wd W), v6, v7, v8, v9, v10, v11, v12] = some (.nw ((plainR s.toNat).map PyData.int)) := by
      rw [fLc_eq, show rg1 (aCons (fVar 4) aNil) [Slot.d (PyData.list (List.map PyData.int ns)), .d (.int (i : Int)), .d (.int z), .d (.int v), .d (.int s), .d (wd W), v6, v7, v8, v9, v10, v11, v12] = some (rgD 0 s.toNat) from by simp -implicitDefEqProofs; exact rg1_ok (by omega) (by omega), Option.bind_some, if_pos (by rw [rgD_len]; omega), rgD0, lcD_all (e := fun i : Nat => PyData.int (i : Int)) (e' := PyData.int) (fun i : Nat => (i : Int))]
      · rfl
      · intro x hx; rfl
      · intro x hx; simp [wipeR]
    refine goes_seq (fun ρ => ρ = [Slot.d (PyData.list (List.map PyData.int ns)), .d (.int (i : Int)), .d (.int z), .d (.int v), .d (.int s), .d (wd W), .d (.list ((plainR s.toNat).map PyData.int)), v7, v8, v9, v10, v11, v12]) ⟨_, by rw [gSet_eq, p1]; rfl, rfl⟩ ?_
    rintro ρ rfl
    refine goes_seq (fun ρ => ρ = [Slot.d (PyData.list (List.map PyData.int ns)), .d (.int (i : Int)), .d (.int z), .d (.int v), .d (.int s), .d (wd W), .d (.list ((plainR s.toNat).map PyData.int)), v7, v8, v9, v10, v11, v12]) ⟨_, by simp -implicitDefEqProofs [q13, s1, -List.map_map], rfl⟩ ?_
    rintro ρ rfl
    have p2 : fLc (itR (fVar 6)) 12 cYes (f2 gMinus (f2 gMinus (fVar 4) (fC (.int 1))) (fVar 12)) [12] [Slot.d (PyData.list (List.map PyData.int ns)), .d (.int (i : Int)), .d (.int z), .d (.int v), .d (.int s), .d (wd W), .d (.list ((plainR s.toNat).map PyData.int)), v7, v8, v9, v10, v11, v12] = some (.nw ((halfR s.toNat).map PyData.int)) := by
      rw [fLc_eq, show itR (fVar 6) [Slot.d (PyData.list (List.map PyData.int ns)), .d (.int (i : Int)), .d (.int z), .d (.int v), .d (.int s), .d (wd W), .d (.list ((plainR s.toNat).map PyData.int)), v7, v8, v9, v10, v11, v12] = some ((plainR s.toNat).map PyData.int) from rfl, Option.bind_some, if_pos (by rw [List.length_map, plainR_len]; omega), lcD_all (e' := PyData.int) (fun k : Int => s - 1 - k)]
      · congr 2
        unfold plainR halfR
        rw [show ((s.toNat : Nat) : Int) = s by omega]
        simp only [List.map_map]
        rfl
      · intro x hx; rfl
      · intro x hx; simp [wipeR]
    refine goes_seq (fun ρ => ρ = [Slot.d (PyData.list (List.map PyData.int ns)), .d (.int (i : Int)), .d (.int z), .d (.int v), .d (.int s), .d (wd W), .d (.list ((plainR s.toNat).map PyData.int)), v7, v8, v9, v10, v11, v12]) ⟨_, by
      rw [gIf_eq, tNotF_eq, fTru_eq, fCall_eq, aCons_eq, fCall_eq]
      simp -implicitDefEqProofs [q14, s2, p2, -List.map_map, -fLc_eq], rfl⟩ ?_
    rintro ρ rfl
    refine goes_seq (fun ρ => ρ = [Slot.d (PyData.list (List.map PyData.int ns)), .d (.int (i : Int)), .d (.int z), .d (.int v), .d (.int s), .d (wd W), .d (.list ((plainR s.toNat).map PyData.int)), .d (wd RW), v8, v9, v10, v11, v12]) ⟨_, by simp -implicitDefEqProofs [q5, -List.map_map], rfl⟩ ?_
    rintro ρ rfl
    refine goes_seq (fun ρ => ρ = [Slot.d (PyData.list (List.map PyData.int ns)), .d (.int (i : Int)), .d (.int z), .d (.int v), .d (.int s), .d (wd W), .d (.list ((plainR s.toNat).map PyData.int)), .d (wd RW), .d (wd r), v9, v10, v11, v12]) ⟨_, by simp -implicitDefEqProofs [q2, -List.map_map], rfl⟩ ?_
    rintro ρ rfl
    refine goes_seq (fun ρ => ρ = [Slot.d (PyData.list (List.map PyData.int ns)), .d (.int (i : Int)), .d (.int z), .d (.int v), .d (.int s), .d (wd W), .d (.list ((plainR s.toNat).map PyData.int)), .d (wd RW), .d (wd r), v9, v10, v11, v12]) ⟨_, by simp -implicitDefEqProofs [q6, s3, -List.map_map], rfl⟩ ?_
    rintro ρ rfl
    refine goes_seq (fun ρ => ρ = [Slot.d (PyData.list (List.map PyData.int ns)), .d (.int (i : Int)), .d (.int z), .d (.int v), .d (.int s), .d (wd W), .d (.list ((plainR s.toNat).map PyData.int)), .d (wd RW), .d (wd r), .d (.int 0), v10, v11, v12]) ⟨_, by simp -implicitDefEqProofs [-List.map_map], rfl⟩ ?_
    rintro ρ rfl
    refine goes_seq (fun ρ => ∃ v10 v12, ρ = [Slot.d (PyData.list (List.map PyData.int ns)), .d (.int (i : Int)), .d (.int z), .d (.int v), .d (.int s), .d (wd W), .d (.list ((plainR s.toNat).map PyData.int)), .d (wd RW), .d (wd r), .d (.int (invI r : Nat)), v10, v11, v12]) ?_ ?_
    · rw [gFor_eq, show rg1 (aCons (fVar 4) aNil) [Slot.d (PyData.list (List.map PyData.int ns)), .d (.int (i : Int)), .d (.int z), .d (.int v), .d (.int s), .d (wd W), .d (.list ((plainR s.toNat).map PyData.int)), .d (wd RW), .d (wd r), .d (.int 0), v10, v11, v12] = some (rgD 0 s.toNat) from by simp -implicitDefEqProofs; exact rg1_ok (by omega) (by omega), Option.bind_some]
      obtain ⟨ρ', e1, e2⟩ := forD_inv (xs := rgD 0 s.toNat) (u := uName 10) (g := (gSet 9 (f2 gAdd (fVar 9) (fC1 gLen (aCons (fLc (rg2 (aCons (f2 gAdd (fVar 10) (fC (.int 1))) (aCons (fVar 4) aNil))) 12 (fB (f2 gGt (f2 gIx (fVar 8) (fVar 10)) (f2 gIx (fVar 8) (fVar 12)))) (fVar 12) [12]) aNil)))))
        (fun j ρ => ∃ (M : Nat) (v10 v12 : Slot), ρ = [Slot.d (PyData.list (List.map PyData.int ns)), .d (.int (i : Int)), .d (.int z), .d (.int v), .d (.int s), .d (wd W), .d (.list ((plainR s.toNat).map PyData.int)), .d (wd RW), .d (wd r), .d (.int (M : Int)), v10, v11, v12] ∧ M + invI (r.drop j) = invI r)
        (ρ := [Slot.d (PyData.list (List.map PyData.int ns)), .d (.int (i : Int)), .d (.int z), .d (.int v), .d (.int s), .d (wd W), .d (.list ((plainR s.toNat).map PyData.int)), .d (wd RW), .d (wd r), .d (.int 0), v10, v11, v12]) ⟨0, v10, v12, rfl, by simp⟩ (by
          rintro j x ρ hj ⟨M, v10, v12, rfl, hM⟩
          obtain ⟨j2, rfl⟩ := rgD_get hj
          rw [Int.zero_add]
          have hjl : j < r.length := by omega
          have cn := cnt_at hjl
          have g1 : atI (r.map PyData.int) (j : Int) = some (.int (r.getD j 0)) := atI_int hjl
          have g2 : ∀ k : Nat, k < r.length - (j + 1) → atI (r.map PyData.int) ((j : Int) + 1 + (k : Int)) = some (.int (r.getD (j + 1 + k) 0)) := fun k hk => by
            have := atI_int (r := r) (i := j + 1 + k) (by omega)
            rwa [show ((j + 1 + k : Nat) : Int) = (j : Int) + 1 + (k : Int) by omega] at this
          obtain ⟨cd, hcd⟩ : ∃ c : Nat → Bool, c = fun k => decide (r.getD (j + 1 + k) 0 < r.getD j 0) := ⟨_, rfl⟩
          have hcd2 : ∀ k, decide (r.getD (j + 1 + k) 0 < r.getD j 0) = cd k := fun k => by rw [hcd]
          obtain ⟨L, hL⟩ : ∃ L, L = ((List.range (r.length - (j + 1))).filter cd).length := ⟨_, rfl⟩
          rw [← hcd, ← hL] at cn
          refine ⟨[Slot.d (PyData.list (List.map PyData.int ns)), .d (.int (i : Int)), .d (.int z), .d (.int v), .d (.int s), .d (wd W), .d (.list ((plainR s.toNat).map PyData.int)), .d (wd RW), .d (wd r), .d (.int (M : Int)), .d (.int (j : Int)), v11, v12], [Slot.d (PyData.list (List.map PyData.int ns)), .d (.int (i : Int)), .d (.int z), .d (.int v), .d (.int s), .d (wd W), .d (.list ((plainR s.toNat).map PyData.int)), .d (wd RW), .d (wd r), .d (.int ((M + L : Nat) : Int)), .d (.int (j : Int)), v11, v12], rfl, .inl ?_, _, _, _, rfl, by omega⟩
          have r6 : rgD ((j : Int) + 1) (s - ((j : Int) + 1)).toNat = (List.range (r.length - (j + 1))).map fun k : Nat => PyData.int ((j : Int) + 1 + (k : Int)) := by
            unfold rgD
            rw [show (s - ((j : Int) + 1)).toNat = r.length - (j + 1) by omega]
          simp -implicitDefEqProofs [Option.bind_assoc]
          rw [rg2_ok (by omega) (by omega) (by omega) (by omega), Option.bind_some, if_pos (by rw [rgD_len]; omega), r6, lcD_gen (e' := PyData.int) cd (fun k : Nat => (j : Int) + 1 + (k : Int))]
          · simp -implicitDefEqProofs [hL]
          · intro k hk
            have hk' := List.mem_range.mp hk
            have e2 := g2 k hk'
            have e3 := hcd2 k
            generalize r.getD (j + 1 + k) 0 = A1 at e2 e3
            generalize r.getD j 0 = A2 at g1 e3
            simp -implicitDefEqProofs [g1, e2, ← e3]
          · intro k _ _
            simp)
      rw [rgD_len] at e2
      obtain ⟨M, v10, v12, rfl, hM⟩ := e2
      rw [← hl, List.drop_length] at hM
      have hM' : M = invI r := hM
      subst hM'
      exact ⟨_, e1, _, _, rfl⟩
    rintro ρ ⟨v10, v12, rfl⟩
    refine goes_seq (fun ρ => ρ = [Slot.d (PyData.list (List.map PyData.int ns)), .d (.int (i : Int)), .d (.int z), .d (.int v), .d (.int s), .d (wd W), .d (.list ((plainR s.toNat).map PyData.int)), .d (wd RW), .d (wd r), .d (.int (invI r : Nat)), v10, v11, v12]) ⟨_, by simp -implicitDefEqProofs [q8, s4, -List.map_map], rfl⟩ ?_
    rintro ρ rfl
    refine goes_seq (fun ρ => ρ = [Slot.d (PyData.list (List.map PyData.int ns)), .d (.int (i : Int)), .d (.int z), .d (.int v), .d (.int s), .d (wd W), .d (.list ((plainR s.toNat).map PyData.int)), .d (wd RW), .d (wd r), .d (.int (invI r : Nat)), v10, v11, v12]) ⟨_, by simp -implicitDefEqProofs [q9, q10, q11, q12, s5, s6, -List.map_map], rfl⟩ ?_
    rintro ρ rfl
    refine goes_seq (fun ρ => ρ = [Slot.d (PyData.list (List.map PyData.int ns)), .d (.int (i : Int)), .d (.int z), .d (.int v), .d (.int s), .d (wd W), .d (.list ((plainR s.toNat).map PyData.int)), .d (wd RW), .d (wd r), .d (.int (invI r : Nat)), v10, .d (wd FL), v12]) ⟨_, by simp -implicitDefEqProofs [q3, aW, q4, -gAdd_tuple, -List.map_append, -List.map_map], rfl⟩ ?_
    rintro ρ rfl
    refine goes_one ⟨[Slot.d (PyData.list (List.map PyData.int ns)), .d (.int (i : Int)), .d (.int z), .d (.int v), .d (.int s), .d (wd W), .d (.list ((plainR s.toNat).map PyData.int)), .d (wd RW), .d (wd r), .d (.int (invI r : Nat)), v10, .d (wd FL), v12], ?_, _, _, _, _, _, _, _, _, _, _, _, _, rfl⟩
    simp -implicitDefEqProofs [q7, s7, -List.map_map]
  · rintro ρ ⟨v1, v2, v3, v4, v5, v6, v7, v8, v9, v10, v11, v12, rfl⟩
    simp
end K04
namespace K04
open PySem PySem.Spec PyProof.Rows L2 DL
theorem all_mk {l : PySem.W.OpenLaw} {w : World} {K : PySem.W.Frag} {h : Heap} {mg : Str → Option Value} {fa f_plain_row f_half_turn f_row_of f_crossings f_places_of f_starts f_ends f_followed f__law_mixed f__law_word f__law_row f__law_ends f__law_starts f__law_rest f__law_drawn_row f__law_row_word f__law_same f_law : Addr} (X : K.In h) (G : h.Ns mainGlobals mg) (hfa : mg "law" = some (.ref fa))
    {od_plain_row an_plain_row od_half_turn an_half_turn od_row_of an_row_of od_crossings an_crossings od_places_of an_places_of od_starts an_starts od_ends an_ends od_followed an_followed od__law_mixed an__law_mixed od__law_word an__law_word od__law_row an__law_row od__law_ends an__law_ends od__law_starts an__law_starts od__law_rest an__law_rest od__law_drawn_row an__law_drawn_row od__law_row_word an__law_row_word od__law_same an__law_same od_law an_law : Option Addr} {sl_plain_row sl_half_turn sl_row_of sl_crossings sl_places_of sl_starts sl_ends sl_followed sl__law_mixed sl__law_word sl__law_row sl__law_ends sl__law_starts sl__law_rest sl__law_drawn_row sl__law_row_word sl__law_same sl_law : Array (Option Value)} {oc_plain_row kV_plain_row dc_plain_row pm_plain_row cd_plain_row ct_plain_row oc_half_turn kV_half_turn dc_half_turn pm_half_turn cd_half_turn ct_half_turn oc_row_of kV_row_of dc_row_of pm_row_of cd_row_of ct_row_of oc_crossings kV_crossings dc_crossings pm_crossings cd_crossings ct_crossings oc_places_of kV_places_of dc_places_of pm_places_of cd_places_of ct_places_of oc_starts kV_starts dc_starts pm_starts cd_starts ct_starts oc_ends kV_ends dc_ends pm_ends cd_ends ct_ends oc_followed kV_followed dc_followed pm_followed cd_followed ct_followed oc__law_mixed kV__law_mixed dc__law_mixed pm__law_mixed cd__law_mixed ct__law_mixed oc__law_word kV__law_word dc__law_word pm__law_word cd__law_word ct__law_word oc__law_row kV__law_row dc__law_row pm__law_row cd__law_row ct__law_row oc__law_ends kV__law_ends dc__law_ends pm__law_ends cd__law_ends ct__law_ends oc__law_starts kV__law_starts dc__law_starts pm__law_starts cd__law_starts ct__law_starts oc__law_rest kV__law_rest dc__law_rest pm__law_rest cd__law_rest ct__law_rest oc__law_drawn_row kV__law_drawn_row dc__law_drawn_row pm__law_drawn_row cd__law_drawn_row ct__law_drawn_row oc__law_row_word kV__law_row_word dc__law_row_word pm__law_row_word cd__law_row_word ct__law_row_word oc__law_same kV__law_same dc__law_same pm__law_same cd__law_same ct__law_same oc_law kV_law dc_law pm_law cd_law ct_law : Value}
    (a_plain_row : PySem.W.nsIn K mainGlobals "plain_row" = some (some (.ref f_plain_row))) (l_plain_row : K.lookup f_plain_row = some ⟨oc_plain_row, od_plain_row, .func (PySem.W.fnOf "plain_row" "plain_row" (defArgs s_plain_row) (defBody s_plain_row) (defScope s_plain_row) .none kV_plain_row dc_plain_row pm_plain_row an_plain_row cd_plain_row ct_plain_row), sl_plain_row⟩) (c_plain_row : PySem.W.codeIn K cd_plain_row "plain_row" = true) (k_plain_row : PySem.W.keepIn K (.ref f_plain_row) = true)
    (a_half_turn : PySem.W.nsIn K mainGlobals "half_turn" = some (some (.ref f_half_turn))) (l_half_turn : K.lookup f_half_turn = some ⟨oc_half_turn, od_half_turn, .func (PySem.W.fnOf "half_turn" "half_turn" (defArgs s_half_turn) (defBody s_half_turn) (defScope s_half_turn) .none kV_half_turn dc_half_turn pm_half_turn an_half_turn cd_half_turn ct_half_turn), sl_half_turn⟩) (c_half_turn : PySem.W.codeIn K cd_half_turn "half_turn" = true) (k_half_turn : PySem.W.keepIn K (.ref f_half_turn) = true)
    (a_row_of : PySem.W.nsIn K mainGlobals "row_of" = some (some (.ref f_row_of))) (l_row_of : K.lookup f_row_of = some ⟨oc_row_of, od_row_of, .func (PySem.W.fnOf "row_of" "row_of" (defArgs s_row_of) (defBody s_row_of) (defScope s_row_of) .none kV_row_of dc_row_of pm_row_of an_row_of cd_row_of ct_row_of), sl_row_of⟩) (c_row_of : PySem.W.codeIn K cd_row_of "row_of" = true) (k_row_of : PySem.W.keepIn K (.ref f_row_of) = true)
    (a_crossings : PySem.W.nsIn K mainGlobals "crossings" = some (some (.ref f_crossings))) (l_crossings : K.lookup f_crossings = some ⟨oc_crossings, od_crossings, .func (PySem.W.fnOf "crossings" "crossings" (defArgs s_crossings) (defBody s_crossings) (defScope s_crossings) .none kV_crossings dc_crossings pm_crossings an_crossings cd_crossings ct_crossings), sl_crossings⟩) (c_crossings : PySem.W.codeIn K cd_crossings "crossings" = true) (k_crossings : PySem.W.keepIn K (.ref f_crossings) = true)
    (a_places_of : PySem.W.nsIn K mainGlobals "places_of" = some (some (.ref f_places_of))) (l_places_of : K.lookup f_places_of = some ⟨oc_places_of, od_places_of, .func (PySem.W.fnOf "places_of" "places_of" (defArgs s_places_of) (defBody s_places_of) (defScope s_places_of) .none kV_places_of dc_places_of pm_places_of an_places_of cd_places_of ct_places_of), sl_places_of⟩) (c_places_of : PySem.W.codeIn K cd_places_of "places_of" = true) (k_places_of : PySem.W.keepIn K (.ref f_places_of) = true)
    (a_starts : PySem.W.nsIn K mainGlobals "starts" = some (some (.ref f_starts))) (l_starts : K.lookup f_starts = some ⟨oc_starts, od_starts, .func (PySem.W.fnOf "starts" "starts" (defArgs s_starts) (defBody s_starts) (defScope s_starts) .none kV_starts dc_starts pm_starts an_starts cd_starts ct_starts), sl_starts⟩) (c_starts : PySem.W.codeIn K cd_starts "starts" = true) (k_starts : PySem.W.keepIn K (.ref f_starts) = true)
    (a_ends : PySem.W.nsIn K mainGlobals "ends" = some (some (.ref f_ends))) (l_ends : K.lookup f_ends = some ⟨oc_ends, od_ends, .func (PySem.W.fnOf "ends" "ends" (defArgs s_ends) (defBody s_ends) (defScope s_ends) .none kV_ends dc_ends pm_ends an_ends cd_ends ct_ends), sl_ends⟩) (c_ends : PySem.W.codeIn K cd_ends "ends" = true) (k_ends : PySem.W.keepIn K (.ref f_ends) = true)
    (a_followed : PySem.W.nsIn K mainGlobals "followed" = some (some (.ref f_followed))) (l_followed : K.lookup f_followed = some ⟨oc_followed, od_followed, .func (PySem.W.fnOf "followed" "followed" (defArgs s_followed) (defBody s_followed) (defScope s_followed) .none kV_followed dc_followed pm_followed an_followed cd_followed ct_followed), sl_followed⟩) (c_followed : PySem.W.codeIn K cd_followed "followed" = true) (k_followed : PySem.W.keepIn K (.ref f_followed) = true)
    (a__law_mixed : PySem.W.nsIn K mainGlobals "_law_mixed" = some (some (.ref f__law_mixed))) (l__law_mixed : K.lookup f__law_mixed = some ⟨oc__law_mixed, od__law_mixed, .func (PySem.W.fnOf "_law_mixed" "_law_mixed" (defArgs s__law_mixed) (defBody s__law_mixed) (defScope s__law_mixed) .none kV__law_mixed dc__law_mixed pm__law_mixed an__law_mixed cd__law_mixed ct__law_mixed), sl__law_mixed⟩) (c__law_mixed : PySem.W.codeIn K cd__law_mixed "_law_mixed" = true) (k__law_mixed : PySem.W.keepIn K (.ref f__law_mixed) = true)
    (a__law_word : PySem.W.nsIn K mainGlobals "_law_word" = some (some (.ref f__law_word))) (l__law_word : K.lookup f__law_word = some ⟨oc__law_word, od__law_word, .func (PySem.W.fnOf "_law_word" "_law_word" (defArgs s__law_word) (defBody s__law_word) (defScope s__law_word) .none kV__law_word dc__law_word pm__law_word an__law_word cd__law_word ct__law_word), sl__law_word⟩) (c__law_word : PySem.W.codeIn K cd__law_word "_law_word" = true) (k__law_word : PySem.W.keepIn K (.ref f__law_word) = true)
    (a__law_row : PySem.W.nsIn K mainGlobals "_law_row" = some (some (.ref f__law_row))) (l__law_row : K.lookup f__law_row = some ⟨oc__law_row, od__law_row, .func (PySem.W.fnOf "_law_row" "_law_row" (defArgs s__law_row) (defBody s__law_row) (defScope s__law_row) .none kV__law_row dc__law_row pm__law_row an__law_row cd__law_row ct__law_row), sl__law_row⟩) (c__law_row : PySem.W.codeIn K cd__law_row "_law_row" = true) (k__law_row : PySem.W.keepIn K (.ref f__law_row) = true)
    (a__law_ends : PySem.W.nsIn K mainGlobals "_law_ends" = some (some (.ref f__law_ends))) (l__law_ends : K.lookup f__law_ends = some ⟨oc__law_ends, od__law_ends, .func (PySem.W.fnOf "_law_ends" "_law_ends" (defArgs s__law_ends) (defBody s__law_ends) (defScope s__law_ends) .none kV__law_ends dc__law_ends pm__law_ends an__law_ends cd__law_ends ct__law_ends), sl__law_ends⟩) (c__law_ends : PySem.W.codeIn K cd__law_ends "_law_ends" = true) (k__law_ends : PySem.W.keepIn K (.ref f__law_ends) = true)
    (a__law_starts : PySem.W.nsIn K mainGlobals "_law_starts" = some (some (.ref f__law_starts))) (l__law_starts : K.lookup f__law_starts = some ⟨oc__law_starts, od__law_starts, .func (PySem.W.fnOf "_law_starts" "_law_starts" (defArgs s__law_starts) (defBody s__law_starts) (defScope s__law_starts) .none kV__law_starts dc__law_starts pm__law_starts an__law_starts cd__law_starts ct__law_starts), sl__law_starts⟩) (c__law_starts : PySem.W.codeIn K cd__law_starts "_law_starts" = true) (k__law_starts : PySem.W.keepIn K (.ref f__law_starts) = true)
    (a__law_rest : PySem.W.nsIn K mainGlobals "_law_rest" = some (some (.ref f__law_rest))) (l__law_rest : K.lookup f__law_rest = some ⟨oc__law_rest, od__law_rest, .func (PySem.W.fnOf "_law_rest" "_law_rest" (defArgs s__law_rest) (defBody s__law_rest) (defScope s__law_rest) .none kV__law_rest dc__law_rest pm__law_rest an__law_rest cd__law_rest ct__law_rest), sl__law_rest⟩) (c__law_rest : PySem.W.codeIn K cd__law_rest "_law_rest" = true) (k__law_rest : PySem.W.keepIn K (.ref f__law_rest) = true)
    (a__law_drawn_row : PySem.W.nsIn K mainGlobals "_law_drawn_row" = some (some (.ref f__law_drawn_row))) (l__law_drawn_row : K.lookup f__law_drawn_row = some ⟨oc__law_drawn_row, od__law_drawn_row, .func (PySem.W.fnOf "_law_drawn_row" "_law_drawn_row" (defArgs s__law_drawn_row) (defBody s__law_drawn_row) (defScope s__law_drawn_row) .none kV__law_drawn_row dc__law_drawn_row pm__law_drawn_row an__law_drawn_row cd__law_drawn_row ct__law_drawn_row), sl__law_drawn_row⟩) (c__law_drawn_row : PySem.W.codeIn K cd__law_drawn_row "_law_drawn_row" = true) (k__law_drawn_row : PySem.W.keepIn K (.ref f__law_drawn_row) = true)
    (a__law_row_word : PySem.W.nsIn K mainGlobals "_law_row_word" = some (some (.ref f__law_row_word))) (l__law_row_word : K.lookup f__law_row_word = some ⟨oc__law_row_word, od__law_row_word, .func (PySem.W.fnOf "_law_row_word" "_law_row_word" (defArgs s__law_row_word) (defBody s__law_row_word) (defScope s__law_row_word) .none kV__law_row_word dc__law_row_word pm__law_row_word an__law_row_word cd__law_row_word ct__law_row_word), sl__law_row_word⟩) (c__law_row_word : PySem.W.codeIn K cd__law_row_word "_law_row_word" = true) (k__law_row_word : PySem.W.keepIn K (.ref f__law_row_word) = true)
    (a__law_same : PySem.W.nsIn K mainGlobals "_law_same" = some (some (.ref f__law_same))) (l__law_same : K.lookup f__law_same = some ⟨oc__law_same, od__law_same, .func (PySem.W.fnOf "_law_same" "_law_same" (defArgs s__law_same) (defBody s__law_same) (defScope s__law_same) .none kV__law_same dc__law_same pm__law_same an__law_same cd__law_same ct__law_same), sl__law_same⟩) (c__law_same : PySem.W.codeIn K cd__law_same "_law_same" = true) (k__law_same : PySem.W.keepIn K (.ref f__law_same) = true)
    (a_law : PySem.W.nsIn K mainGlobals "law" = some (some (.ref f_law))) (l_law : K.lookup f_law = some ⟨oc_law, od_law, .func (PySem.W.fnOf "law" "law" (defArgs s_law) (defBody s_law) (defScope s_law) .none kV_law dc_law pm_law an_law cd_law ct_law), sl_law⟩) (c_law : PySem.W.codeIn K cd_law "law" = true) (k_law : PySem.W.keepIn K (.ref f_law) = true)
    (z_tuple : PySem.W.nsIn K mainGlobals "tuple" = some none) (z_range : PySem.W.nsIn K mainGlobals "range" = some none) (z_abs : PySem.W.nsIn K mainGlobals "abs" = some none) (z_list : PySem.W.nsIn K mainGlobals "list" = some none) (z_sum : PySem.W.nsIn K mainGlobals "sum" = some none) (z_enumerate : PySem.W.nsIn K mainGlobals "enumerate" = some none) (z_len : PySem.W.nsIn K mainGlobals "len" = some none) (z_int : PySem.W.nsIn K mainGlobals "int" = some none) (z_isinstance : PySem.W.nsIn K mainGlobals "isinstance" = some none) (z_bool : PySem.W.nsIn K mainGlobals "bool" = some none) (kt : KTup K) :
    ∃ fd : FuncData, (∀ (s : Shared) (v : Value), BindsTo s fd ⟨[v], []⟩ [("script", v)]) ∧ ∀ base : Heap, K.In base → base.Ns mainGlobals mg → FnOk l.prog w K mg base CX0 3 fa fd ["script"] (spLaw K) := by
  have e := hfa.symm.trans (PySem.W.mg_of X G a_law)
  cases e
  have F_plain_row := fun_mk (st := s_plain_row) l_plain_row c_plain_row k_plain_row
  have m_plain_row := PySem.W.mg_of X G a_plain_row
  have b_plain_row := F_plain_row.binds (ps := ["strands"]) fun _ _ _ _ _ _ us hl => match us, hl with | [_], _ => rfl
  have F_half_turn := fun_mk (st := s_half_turn) l_half_turn c_half_turn k_half_turn
  have m_half_turn := PySem.W.mg_of X G a_half_turn
  have b_half_turn := F_half_turn.binds (ps := ["strands"]) fun _ _ _ _ _ _ us hl => match us, hl with | [_], _ => rfl
  have F_row_of := fun_mk (st := s_row_of) l_row_of c_row_of k_row_of
  have m_row_of := PySem.W.mg_of X G a_row_of
  have b_row_of := F_row_of.binds (ps := ["strands", "word"]) fun _ _ _ _ _ _ us hl => match us, hl with | [_, _], _ => rfl
  have F_crossings := fun_mk (st := s_crossings) l_crossings c_crossings k_crossings
  have m_crossings := PySem.W.mg_of X G a_crossings
  have b_crossings := F_crossings.binds (ps := ["row"]) fun _ _ _ _ _ _ us hl => match us, hl with | [_], _ => rfl
  have F_places_of := fun_mk (st := s_places_of) l_places_of c_places_of k_places_of
  have m_places_of := PySem.W.mg_of X G a_places_of
  have b_places_of := F_places_of.binds (ps := ["row"]) fun _ _ _ _ _ _ us hl => match us, hl with | [_], _ => rfl
  have F_starts := fun_mk (st := s_starts) l_starts c_starts k_starts
  have m_starts := PySem.W.mg_of X G a_starts
  have b_starts := F_starts.binds (ps := ["row"]) fun _ _ _ _ _ _ us hl => match us, hl with | [_], _ => rfl
  have F_ends := fun_mk (st := s_ends) l_ends c_ends k_ends
  have m_ends := PySem.W.mg_of X G a_ends
  have b_ends := F_ends.binds (ps := ["row"]) fun _ _ _ _ _ _ us hl => match us, hl with | [_], _ => rfl
  have F_followed := fun_mk (st := s_followed) l_followed c_followed k_followed
  have m_followed := PySem.W.mg_of X G a_followed
  have b_followed := F_followed.binds (ps := ["row", "other"]) fun _ _ _ _ _ _ us hl => match us, hl with | [_, _], _ => rfl
  have F__law_mixed := fun_mk (st := s__law_mixed) l__law_mixed c__law_mixed k__law_mixed
  have m__law_mixed := PySem.W.mg_of X G a__law_mixed
  have b__law_mixed := F__law_mixed.binds (ps := ["cell", "turn"]) fun _ _ _ _ _ _ us hl => match us, hl with | [_, _], _ => rfl
  have F__law_word := fun_mk (st := s__law_word) l__law_word c__law_word k__law_word
  have m__law_word := PySem.W.mg_of X G a__law_word
  have b__law_word := F__law_word.binds (ps := ["value", "strands", "most"]) fun _ _ _ _ _ _ us hl => match us, hl with | [_, _, _], _ => rfl
  have F__law_row := fun_mk (st := s__law_row) l__law_row c__law_row k__law_row
  have m__law_row := PySem.W.mg_of X G a__law_row
  have b__law_row := F__law_row.binds (ps := ["strands", "word"]) fun _ _ _ _ _ _ us hl => match us, hl with | [_, _], _ => rfl
  have F__law_ends := fun_mk (st := s__law_ends) l__law_ends c__law_ends k__law_ends
  have m__law_ends := PySem.W.mg_of X G a__law_ends
  have b__law_ends := F__law_ends.binds (ps := ["row"]) fun _ _ _ _ _ _ us hl => match us, hl with | [_], _ => rfl
  have F__law_starts := fun_mk (st := s__law_starts) l__law_starts c__law_starts k__law_starts
  have m__law_starts := PySem.W.mg_of X G a__law_starts
  have b__law_starts := F__law_starts.binds (ps := ["row"]) fun _ _ _ _ _ _ us hl => match us, hl with | [_], _ => rfl
  have F__law_rest := fun_mk (st := s__law_rest) l__law_rest c__law_rest k__law_rest
  have m__law_rest := PySem.W.mg_of X G a__law_rest
  have b__law_rest := F__law_rest.binds (ps := ["row", "letter"]) fun _ _ _ _ _ _ us hl => match us, hl with | [_, _], _ => rfl
  have F__law_drawn_row := fun_mk (st := s__law_drawn_row) l__law_drawn_row c__law_drawn_row k__law_drawn_row
  have m__law_drawn_row := PySem.W.mg_of X G a__law_drawn_row
  have b__law_drawn_row := F__law_drawn_row.binds (ps := ["value", "strands"]) fun _ _ _ _ _ _ us hl => match us, hl with | [_, _], _ => rfl
  have F__law_row_word := fun_mk (st := s__law_row_word) l__law_row_word c__law_row_word k__law_row_word
  have m__law_row_word := PySem.W.mg_of X G a__law_row_word
  have b__law_row_word := F__law_row_word.binds (ps := ["row"]) fun _ _ _ _ _ _ us hl => match us, hl with | [_], _ => rfl
  have F__law_same := fun_mk (st := s__law_same) l__law_same c__law_same k__law_same
  have m__law_same := PySem.W.mg_of X G a__law_same
  have b__law_same := F__law_same.binds (ps := ["told", "due"]) fun _ _ _ _ _ _ us hl => match us, hl with | [_, _], _ => rfl
  have F_law := fun_mk (st := s_law) l_law c_law k_law
  have m_law := PySem.W.mg_of X G a_law
  have m_tuple := PySem.W.mg_none_of X G z_tuple
  have m_range := PySem.W.mg_none_of X G z_range
  have m_abs := PySem.W.mg_none_of X G z_abs
  have m_list := PySem.W.mg_none_of X G z_list
  have m_sum := PySem.W.mg_none_of X G z_sum
  have m_enumerate := PySem.W.mg_none_of X G z_enumerate
  have m_len := PySem.W.mg_none_of X G z_len
  have m_int := PySem.W.mg_none_of X G z_int
  have m_isinstance := PySem.W.mg_none_of X G z_isinstance
  have m_bool := PySem.W.mg_none_of X G z_bool
  refine ⟨PySem.W.fnOf "law" "law" (defArgs s_law) (defBody s_law) (defScope s_law) .none kV_law dc_law pm_law an_law cd_law ct_law, fun s v => .of_eq rfl, fun base _ _ => ?_⟩
  have G_plain_row : FnOk l.prog w K mg base CX0 1 f_plain_row _ ["strands"] (spD K 1 R_plain_row) := ok_plain_row (k := 0) F_plain_row m_tuple m_range
  have G_half_turn : FnOk l.prog w K mg base CX0 2 f_half_turn _ ["strands"] (spD K 1 R_half_turn) := ok_half_turn (k := 1) F_half_turn G_plain_row (by decide) m_plain_row k_plain_row b_plain_row
  have G_row_of : FnOk l.prog w K mg base CX0 1 f_row_of _ ["strands", "word"] (spD K 2 R_row_of) := ok_row_of (k := 0) F_row_of m_tuple m_abs m_list m_range
  have G_crossings : FnOk l.prog w K mg base CX0 1 f_crossings _ ["row"] (spD K 1 R_crossings) := ok_crossings (k := 0) F_crossings m_sum m_enumerate
  have G_places_of : FnOk l.prog w K mg base CX0 1 f_places_of _ ["row"] (spN K 1 R_places_of) := ok_places_of (k := 0) F_places_of m_len m_enumerate
  have G_starts : FnOk l.prog w K mg base CX0 2 f_starts _ ["row"] (spD K 1 R_starts) := ok_starts (k := 1) F_starts G_places_of (by decide) m_places_of k_places_of b_places_of m_range m_len
  have G_ends : FnOk l.prog w K mg base CX0 1 f_ends _ ["row"] (spD K 1 R_ends) := ok_ends (k := 0) F_ends m_range m_len
  have G_followed : FnOk l.prog w K mg base CX0 1 f_followed _ ["row", "other"] (spD K 2 R_followed) := ok_followed (k := 0) F_followed m_tuple
  have G__law_mixed : FnOk l.prog w K mg base CX0 1 f__law_mixed _ ["cell", "turn"] (spD K 2 R__law_mixed) := ok__law_mixed (k := 0) F__law_mixed m_int
  have G__law_word : FnOk l.prog w K mg base CX0 1 f__law_word _ ["value", "strands", "most"] (spD K 3 R__law_word) := ok__law_word (k := 0) F__law_word m_tuple m_range m_int
  have G__law_row : FnOk l.prog w K mg base CX0 1 f__law_row _ ["strands", "word"] (spD K 2 R__law_row) := ok__law_row (k := 0) F__law_row m_tuple m_abs m_range
  have G__law_ends : FnOk l.prog w K mg base CX0 1 f__law_ends _ ["row"] (spD K 1 R__law_ends) := ok__law_ends (k := 0) F__law_ends m_range m_len
  have G__law_starts : FnOk l.prog w K mg base CX0 1 f__law_starts _ ["row"] (spD K 1 R__law_starts) := ok__law_starts (k := 0) F__law_starts kt m_range m_len
  have G__law_rest : FnOk l.prog w K mg base CX0 1 f__law_rest _ ["row", "letter"] (spD K 2 R__law_rest) := ok__law_rest (k := 0) F__law_rest m_tuple
  have G__law_drawn_row : FnOk l.prog w K mg base CX0 1 f__law_drawn_row _ ["value", "strands"] (spD K 2 R__law_drawn_row) := ok__law_drawn_row (k := 0) F__law_drawn_row m_tuple m_range m_len
  have G__law_row_word : FnOk l.prog w K mg base CX0 2 f__law_row_word _ ["row"] (spD K 1 R__law_row_word) := ok__law_row_word (k := 1) F__law_row_word G__law_starts (by decide) m__law_starts k__law_starts b__law_starts G__law_rest (by decide) m__law_rest k__law_rest b__law_rest m_tuple (fun _ => 1000)
  have G__law_same_0 : FnOk l.prog w K mg base CX0 0 f__law_same (PySem.W.fnOf "_law_same" "_law_same" (defArgs s__law_same) (defBody s__law_same) (defScope s__law_same) .none kV__law_same dc__law_same pm__law_same an__law_same cd__law_same ct__law_same) ["told", "due"] (spD K 2 R__law_same_0) := fn_none
  have G__law_same_1 : FnOk l.prog w K mg base CX0 1 f__law_same _ ["told", "due"] (spD K 2 R__law_same_1) := ok__law_same (k := 0) F__law_same G__law_same_0 (by decide) m__law_same k__law_same b__law_same m_isinstance m_int m_bool m_tuple m_list m_range m_len
  have G__law_same_2 : FnOk l.prog w K mg base CX0 2 f__law_same _ ["told", "due"] (spD K 2 R__law_same_2) := ok__law_same (k := 1) F__law_same G__law_same_1 (by decide) m__law_same k__law_same b__law_same m_isinstance m_int m_bool m_tuple m_list m_range m_len
  have G__law_same : FnOk l.prog w K mg base CX0 2 f__law_same _ ["told", "due"] (spD K 2 R__law_same) := G__law_same_2
  exact law_of (ok_law (k := 2) F_law G__law_same (by decide) m__law_same k__law_same b__law_same G_followed (by decide) m_followed k_followed b_followed G__law_row (by decide) m__law_row k__law_row b__law_row G__law_row_word (by decide) m__law_row_word k__law_row_word b__law_row_word G_starts (by decide) m_starts k_starts b_starts G__law_starts (by decide) m__law_starts k__law_starts b__law_starts G_ends (by decide) m_ends k_ends b_ends G__law_ends (by decide) m__law_ends k__law_ends b__law_ends G_crossings (by decide) m_crossings k_crossings b_crossings G_row_of (by decide) m_row_of k_row_of b_row_of G__law_drawn_row (by decide) m__law_drawn_row k__law_drawn_row b__law_drawn_row G_half_turn (by decide) m_half_turn k_half_turn b_half_turn G_plain_row (by decide) m_plain_row k_plain_row b_plain_row G__law_word (by decide) m__law_word k__law_word b__law_word G__law_mixed (by decide) m__law_mixed k__law_mixed b__law_mixed m_enumerate m_range m_len m_tuple) law_at
end K04
open PySem PySem.W PyProof.Rows
set_option maxRecDepth 100000 in
set_option maxHeartbeats 0 in
theorem PySem.Challenge.cw_strandsplaited_k04_rows_holds : PySem.Challenge.rw_strandsplaited_k04_rows.Holds := by
  w_on; o_law; k_head; (case hw => w_witness2)
  k_fill
  refine L2.walk_of (l := PySem.Challenge.rw_strandsplaited_k04_rows) (n := 63) (k := 3) (x := "script") (CX := fun _ => L2.CX0) (sp := fun w => DL.spLaw _) rfl (by decide) rfl ⟨rfl, by decide, by decide⟩ (fun w h Y => PySem.W.kIn_of Y) ?F (fun _ _ a ns hl _ hS => ⟨a, ns, rfl, hS, hl, fun _ => rfl⟩) (fun _ _ _ _ _ h => h)
  case F =>
    intro w mg fa h KX G hmg
    refine' K04.all_mk KX G hmg ?a_plain_row ?l_plain_row ?c_plain_row ?k_plain_row ?a_half_turn ?l_half_turn ?c_half_turn ?k_half_turn ?a_row_of ?l_row_of ?c_row_of ?k_row_of ?a_crossings ?l_crossings ?c_crossings ?k_crossings ?a_places_of ?l_places_of ?c_places_of ?k_places_of ?a_starts ?l_starts ?c_starts ?k_starts ?a_ends ?l_ends ?c_ends ?k_ends ?a_followed ?l_followed ?c_followed ?k_followed ?a__law_mixed ?l__law_mixed ?c__law_mixed ?k__law_mixed ?a__law_word ?l__law_word ?c__law_word ?k__law_word ?a__law_row ?l__law_row ?c__law_row ?k__law_row ?a__law_ends ?l__law_ends ?c__law_ends ?k__law_ends ?a__law_starts ?l__law_starts ?c__law_starts ?k__law_starts ?a__law_rest ?l__law_rest ?c__law_rest ?k__law_rest ?a__law_drawn_row ?l__law_drawn_row ?c__law_drawn_row ?k__law_drawn_row ?a__law_row_word ?l__law_row_word ?c__law_row_word ?k__law_row_word ?a__law_same ?l__law_same ?c__law_same ?k__law_same ?a_law ?l_law ?c_law ?k_law ?z_tuple ?z_range ?z_abs ?z_list ?z_sum ?z_enumerate ?z_len ?z_int ?z_isinstance ?z_bool ?kt
    (case a_plain_row => k_is); (case l_plain_row => k_is); (case c_plain_row => k_is); (case k_plain_row => k_is)
    (case a_half_turn => k_is); (case l_half_turn => k_is); (case c_half_turn => k_is); (case k_half_turn => k_is)
    (case a_row_of => k_is); (case l_row_of => k_is); (case c_row_of => k_is); (case k_row_of => k_is)
    (case a_crossings => k_is); (case l_crossings => k_is); (case c_crossings => k_is); (case k_crossings => k_is)
    (case a_places_of => k_is); (case l_places_of => k_is); (case c_places_of => k_is); (case k_places_of => k_is)
    (case a_starts => k_is); (case l_starts => k_is); (case c_starts => k_is); (case k_starts => k_is)
    (case a_ends => k_is); (case l_ends => k_is); (case c_ends => k_is); (case k_ends => k_is)
    (case a_followed => k_is); (case l_followed => k_is); (case c_followed => k_is); (case k_followed => k_is)
    (case a__law_mixed => k_is); (case l__law_mixed => k_is); (case c__law_mixed => k_is); (case k__law_mixed => k_is)
    (case a__law_word => k_is); (case l__law_word => k_is); (case c__law_word => k_is); (case k__law_word => k_is)
    (case a__law_row => k_is); (case l__law_row => k_is); (case c__law_row => k_is); (case k__law_row => k_is)
    (case a__law_ends => k_is); (case l__law_ends => k_is); (case c__law_ends => k_is); (case k__law_ends => k_is)
    (case a__law_starts => k_is); (case l__law_starts => k_is); (case c__law_starts => k_is); (case k__law_starts => k_is)
    (case a__law_rest => k_is); (case l__law_rest => k_is); (case c__law_rest => k_is); (case k__law_rest => k_is)
    (case a__law_drawn_row => k_is); (case l__law_drawn_row => k_is); (case c__law_drawn_row => k_is); (case k__law_drawn_row => k_is)
    (case a__law_row_word => k_is); (case l__law_row_word => k_is); (case c__law_row_word => k_is); (case k__law_row_word => k_is)
    (case a__law_same => k_is); (case l__law_same => k_is); (case c__law_same => k_is); (case k__law_same => k_is)
    (case a_law => k_is); (case l_law => k_is); (case c_law => k_is); (case k_law => k_is)
    (case z_tuple => k_is); (case z_range => k_is); (case z_abs => k_is); (case z_list => k_is)
    (case z_sum => k_is); (case z_enumerate => k_is); (case z_len => k_is); (case z_int => k_is)
    (case z_isinstance => k_is); (case z_bool => k_is); (case kt => exact DL.ktup_of (by rfl))
