import PyProof.Rows.All
import Wide.All
import OpenK.AllK
import Wide.FinOn
import HandS.Base
import HandS.Call
import HandS.List
import HandS.Comp
import HandS.Ends
import HandS.Iter
import HandS.Walk
import HandS.Words
import HandS.Wide
import HandS.WideBits
import HandS.Gcd
import HandS.IsInst
import HandS.More
import HandS.Style
import HandS.Conv
import HandS.RaiseMore
import PyProof.ReprRoads
import HandS.TupAny
import KE.GoesMore
import HandS.Zip
import HandS.Star
import HandS.Rev
import KE.KMathG
import PySem.Challenge.RW_platelights_k06_whole_lights_split_by_a
set_option Elab.async false
set_option linter.all false
set_option maxRecDepth 100000
set_option maxHeartbeats 4000000
/-! A layer of my own over the hand layer: plain data, evaluated without the heap. -/
namespace DL
open PySem PySem.Spec L2
open PyProof.Rows hiding St

/-! ### heaps -/
def hid (hs : List Addr) (H : Hp) : Hp := fun a => if a ∈ hs then none else H a
theorem hid_out {hs : List Addr} {H : Hp} {a : Addr} (h : a ∉ hs) : hid hs H a = H a := if_neg h
theorem hid_some {hs : List Addr} {H : Hp} {a : Addr} {o : HO} (h : hid hs H a = some o) : a ∉ hs ∧ H a = some o := by
  unfold hid at h
  by_cases m : a ∈ hs
  · rw [if_pos m] at h; cases h
  · rw [if_neg m] at h; exact ⟨m, h⟩
def Sub (G H : Hp) : Prop := ∀ a o, G a = some o → H a = some o
theorem Sub.refl (H : Hp) : Sub H H := fun _ _ h => h
theorem hid_sub {hs : List Addr} {H : Hp} : Sub (hid hs H) H := fun _ _ h => (hid_some h).2
def Step (ps : List Addr) (H H' : Hp) : Prop := ∀ a o, a ∉ ps → H a = some o → H' a = some o
theorem Step.refl {ps : List Addr} (H : Hp) : Step ps H H := fun _ _ _ h => h
theorem Step.trans {ps : List Addr} {H H1 H2 : Hp} (a : Step ps H H1) (b : Step ps H1 H2) : Step ps H H2 := fun x o n h => b x o n (a x o n h)
theorem Step.mono {ps qs : List Addr} {H H1 : Hp} (a : Step ps H H1) (h : ∀ p ∈ ps, p ∈ qs) : Step qs H H1 := fun x o n q => a x o (fun m => n (h x m)) q
theorem Step.new {ps : List Addr} {H : Hp} {p : Addr} {o : HO} (h : H p = none) : Step ps H (upd H p o) := fun a u _ e => by
  rw [upd_ne (ne_of_none e h)]; exact e
theorem Step.hd {ps hs hs' : List Addr} {H H' : Hp} (s : Step ps H H') (h1 : ∀ p ∈ ps, p ∈ hs) (h2 : ∀ a ∈ hs', a ∉ hs → H a = none) : Sub (hid hs H) (hid hs' H') := fun a o e => by
  obtain ⟨n, q⟩ := hid_some e
  rw [hid_out (fun m => by rw [h2 a m n] at q; cases q)]
  exact s a o (fun m => n (h1 a m)) q
theorem Step.hd0 {ps hs : List Addr} {H H' : Hp} (s : Step ps H H') (h1 : ∀ p ∈ ps, p ∈ hs) : Sub (hid hs H) (hid hs H') := s.hd h1 fun _ m n => absurd m n

/-! ### data -/
theorem sqL_mono {K : PySem.W.Frag} {G H : Hp} {a : Addr} {xs : List V} (s : Sub G H) (h : SqL K G a xs) : SqL K H a xs := by
  rcases h with (h | ⟨o, h⟩) | h
  · exact .inl (.inl (s _ _ h))
  · exact .inl (.inr ⟨o, s _ _ h⟩)
  · exact .inr h
theorem sqT_mono {K : PySem.W.Frag} {G H : Hp} {a : Addr} {xs : List V} (s : Sub G H) (h : SqT K G a xs) : SqT K H a xs := by
  rcases h with (h | ⟨o, h⟩) | h
  · exact .inl (.inl (s _ _ h))
  · exact .inl (.inr ⟨o, s _ _ h⟩)
  · exact .inr h
mutual
theorem dp_mono {K : PySem.W.Frag} {G H : Hp} (s : Sub G H) : ∀ (d : PyData) (v : V), Dp K G v d → Dp K H v d
  | .none, _, h => by cases h; exact .non
  | .bool b, _, h => by cases h; exact .bl b
  | .int i, _, h => by cases h; exact .int i
  | .str x, _, h => by cases h; exact .str x
  | .list ds, _, h => by
    cases h with
    | lst hs ha => exact .lst (sqL_mono s hs) (dpa_mono s ds _ ha)
  | .tuple ds, _, h => by
    cases h with
    | tup hs ha => exact .tup (sqT_mono s hs) (dpa_mono s ds _ ha)
  | .dict _, _, h => by cases h
theorem dpa_mono {K : PySem.W.Frag} {G H : Hp} (s : Sub G H) : ∀ (ds : List PyData) (vs : List V), DpAll K G vs ds → DpAll K H vs ds
  | [], _, h => by cases h; exact .nil
  | d :: ds, _, h => by
    cases h with
    | cons h1 h2 => exact .cons (dp_mono s d _ h1) (dpa_mono s ds _ h2)
end
end DL
namespace L2
open PySem PySem.Spec DL
section
variable {K : PySem.W.Frag} {G H : Hp}
theorem Dp.up {v : V} {d : PyData} (h : Dp K G v d) (s : Sub G H) : Dp K H v d := dp_mono s d v h
theorem DpAll.up {vs : List V} {ds : List PyData} (h : DpAll K G vs ds) (s : Sub G H) : DpAll K H vs ds := dpa_mono s ds vs h
theorem DpAll.len : ∀ {vs : List V} {ds : List PyData}, DpAll K H vs ds → vs.length = ds.length
  | _, _, .nil => rfl
  | _, _, .cons _ t => congrArg (· + 1) (DpAll.len t)
theorem DpAll.get : ∀ {vs : List V} {ds : List PyData} {i : Nat} {d : PyData}, DpAll K H vs ds → ds[i]? = some d → ∃ v, vs[i]? = some v ∧ Dp K H v d
  | _, _, 0, _, .cons h _, e => by
    have e' := Option.some.inj e; subst e'; exact ⟨_, rfl, h⟩
  | _, _, i + 1, _, .cons _ t, e => by
    obtain ⟨v, h1, h2⟩ := DpAll.get (i := i) t (by simpa using e)
    exact ⟨v, by simpa using h1, h2⟩
theorem DpAll.getV : ∀ {vs : List V} {ds : List PyData} {i : Nat} {v : V}, DpAll K H vs ds → vs[i]? = some v → ∃ d, ds[i]? = some d ∧ Dp K H v d
  | _, _, 0, _, .cons h _, e => by
    have e' := Option.some.inj e; subst e'; exact ⟨_, rfl, h⟩
  | _, _, i + 1, _, .cons _ t, e => by
    obtain ⟨v, h1, h2⟩ := DpAll.getV (i := i) t (by simpa using e)
    exact ⟨v, by simpa using h1, h2⟩
theorem DpAll.app : ∀ {vs ws : List V} {ds es : List PyData}, DpAll K H vs ds → DpAll K H ws es → DpAll K H (vs ++ ws) (ds ++ es)
  | _, _, _, _, .nil, h => h
  | _, _, _, _, .cons a t, h => .cons a (DpAll.app t h)
theorem DpAll.tk : ∀ {vs : List V} {ds : List PyData} (n : Nat), DpAll K H vs ds → DpAll K H (vs.take n) (ds.take n)
  | _, _, 0, _ => .nil
  | _, _, _ + 1, .nil => .nil
  | _, _, n + 1, .cons a t => .cons a (DpAll.tk n t)
theorem DpAll.dr : ∀ {vs : List V} {ds : List PyData} (n : Nat), DpAll K H vs ds → DpAll K H (vs.drop n) (ds.drop n)
  | _, _, 0, h => h
  | _, _, _ + 1, .nil => .nil
  | _, _, n + 1, .cons _ t => DpAll.dr n t
theorem DpAll.set' : ∀ {vs : List V} {ds : List PyData} (n : Nat) {v : V} {d : PyData}, DpAll K H vs ds → Dp K H v d → DpAll K H (vs.set n v) (ds.set n d)
  | _, _, _, _, _, .nil, _ => .nil
  | _, _, 0, _, _, .cons _ t, h => .cons h t
  | _, _, n + 1, _, _, .cons a t, h => .cons a (DpAll.set' n t h)
theorem DpAll.ints : ∀ (ns : List Int), DpAll K H (ns.map V.int) (ns.map PyData.int)
  | [] => .nil
  | n :: ns => .cons (.int n) (DpAll.ints ns)
end

end L2
namespace DL
open PySem PySem.Spec L2
open PyProof.Rows hiding St
/-! ### states -/
inductive SV where
  | dat (d : PyData) | cel (i : Nat)
abbrev Slots := List (Option SV)
structure Sta where
  ds : Slots
  cs : List (List PyData)
section
variable (K : PySem.W.Frag)
def RelS (hs ps : List Addr) (H : Hp) (v : V) : SV → Prop
  | .dat d => Dp K (hid hs H) v d
  | .cel i => ∃ p, ps[i]? = some p ∧ v = .ref p
structure HR (hs ps : List Addr) (H : Hp) (cs : List (List PyData)) : Prop where
  sub : ∀ p ∈ ps, p ∈ hs
  nd : ps.Nodup
  len : ps.length = cs.length
  trk : ∀ a ∈ hs, H a ≠ none
  cel : ∀ (i : Nat) (p : Addr) (xs : List PyData), ps[i]? = some p → cs[i]? = some xs → ∃ vs, H p = some (.lst vs) ∧ DpAll K (hid hs H) vs xs
structure Rel (hs ps : List Addr) (σ : St) (H : Hp) (st : Sta) : Prop where
  hr : HR K hs ps H st.cs
  len : σ.length = st.ds.length
  slot : ∀ (i : Nat) (x : SV), st.ds[i]? = some (some x) → ∃ v, σ[i]? = some (some v) ∧ RelS K hs ps H v x
end
section
variable {K : PySem.W.Frag} {hs hs' ps ps' : List Addr} {σ : St} {H H' : Hp} {st : Sta} {cs cs' : List (List PyData)}
theorem RelS.up {v : V} {x : SV} (h : RelS K hs ps H v x) (s : Sub (hid hs H) (hid hs' H')) : RelS K hs' ps H' v x := by
  cases x with
  | dat d => exact Dp.up h s
  | cel i => exact h
theorem Rel.slots (R : Rel K hs ps σ H st) (s : Sub (hid hs H) (hid hs' H')) (q : HR K hs' ps H' cs') : Rel K hs' ps σ H' ⟨st.ds, cs'⟩ :=
  ⟨q, R.len, fun i x e => let ⟨v, h1, h2⟩ := R.slot i x e; ⟨v, h1, h2.up s⟩⟩
/-- a step that changes nothing of the cells -/
theorem HR.step (R : HR K hs ps H cs) (s : Step [] H H') : HR K hs ps H' cs := by
  refine ⟨R.sub, R.nd, R.len, fun a m e => ?_, fun i p xs h1 h2 => ?_⟩
  · cases q : H a with
    | none => exact R.trk a m q
    | some o =>
      rw [s a o (by simp) q] at e
      cases e
  · obtain ⟨vs, q1, q2⟩ := R.cel i p xs h1 h2
    exact ⟨vs, s _ _ (by simp) q1, q2.up ((s.mono (qs := ps) (by simp)).hd0 R.sub)⟩
theorem Rel.step (R : Rel K hs ps σ H st) (s : Step [] H H') : Rel K hs ps σ H' st :=
  R.slots ((s.mono (qs := ps) (by simp)).hd0 R.hr.sub) (R.hr.step s)
/-- fewer addresses are hidden -/
theorem HR.less (R : HR K hs ps H cs) (h : ∀ a ∈ hs', a ∈ hs) (hp : ∀ p ∈ ps, p ∈ hs') : HR K hs' ps H cs := by
  have s : Sub (hid hs H) (hid hs' H) := fun a o e => by
    obtain ⟨n, q⟩ := hid_some e
    rw [hid_out fun m => n (h a m)]; exact q
  exact ⟨hp, R.nd, R.len, fun a m => R.trk a (h a m), fun i p xs h1 h2 => let ⟨vs, q1, q2⟩ := R.cel i p xs h1 h2; ⟨vs, q1, q2.up s⟩⟩
theorem Rel.less (R : Rel K hs ps σ H st) (h : ∀ a ∈ hs', a ∈ hs) (hp : ∀ p ∈ ps, p ∈ hs') : Rel K hs' ps σ H st := by
  have s : Sub (hid hs H) (hid hs' H) := fun a o e => by
    obtain ⟨n, q⟩ := hid_some e
    rw [hid_out fun m => n (h a m)]; exact q
  exact R.slots s (R.hr.less h hp)
/-- more are: new ones -/
theorem Rel.more (R : Rel K hs ps σ H st) {p : Addr} (s : Step [] H H') (hp : H p = none) (hp' : H' p ≠ none) : Rel K (p :: hs) ps σ H' st := by
  have e : ∀ a ∈ p :: hs, a ∉ hs → H a = none := fun a m n => by
    rcases List.mem_cons.mp m with e | m
    · rw [e]; exact hp
    · exact absurd m n
  have s1 := (s.mono (qs := ps) (by simp)).hd (hs' := p :: hs) R.hr.sub e
  have R1 := R.hr.step s
  refine R.slots s1 ⟨fun q m => List.mem_cons_of_mem _ (R.hr.sub q m), R.hr.nd, R.hr.len, fun a m => ?_, fun i q xs h1 h2 => ?_⟩
  · rcases List.mem_cons.mp m with e | m
    · rw [e]; exact hp'
    · exact R1.trk a m
  · obtain ⟨vs, q1, q2⟩ := R.hr.cel i q xs h1 h2
    exact ⟨vs, s _ _ (by simp) q1, q2.up s1⟩
end

/-! ### what readings evaluate to -/
section
variable (K : PySem.W.Frag)
def ED (te : TE) (st : Sta) (d : PyData) (cs' : List (List PyData)) : Prop :=
  ∀ hs ps σ H, Rel K hs ps σ H st → ∀ Q : VK, (∀ v H2, Step ps H H2 → Rel K hs ps σ H2 ⟨st.ds, cs'⟩ → Dp K (hid hs H2) v d → Q v H2) → te σ H Q
def EDT (tt : TT) (st : Sta) (b : Bool) (cs' : List (List PyData)) : Prop :=
  ∀ hs ps σ H, Rel K hs ps σ H st → ∀ Q : Bool → Hp → Prop, (∀ H2, Step ps H H2 → Rel K hs ps σ H2 ⟨st.ds, cs'⟩ → Q b H2) → tt σ H Q
def EDA (ta : TA) (st : Sta) (xs : List SV) (cs' : List (List PyData)) : Prop :=
  ∀ hs ps σ H, Rel K hs ps σ H st → ∀ Q : List V → Hp → Prop, (∀ vs H2, Step ps H H2 → Rel K hs ps σ H2 ⟨st.ds, cs'⟩ → Paired (RelS K hs ps H2) vs xs → Q vs H2) → ta σ H Q
/-- a fresh list -/
def EDL (te : TE) (st : Sta) (xs : List PyData) (cs' : List (List PyData)) : Prop :=
  ∀ hs ps σ H, Rel K hs ps σ H st → ∀ Q : VK, (∀ p vs H2, H p = none → Step ps H H2 → Rel K (p :: hs) ps σ H2 ⟨st.ds, cs'⟩ → H2 p = some (.lst vs) → DpAll K (hid (p :: hs) H2) vs xs → Q (.ref p) H2) → te σ H Q
end
section
variable {K : PySem.W.Frag} {st : Sta} {d x y z : PyData} {cs cs' c1 c2 : List (List PyData)} {ta tb te : TE} {tt tu : TT}
theorem hid_cons_sub {p : Addr} {hs : List Addr} {H : Hp} : Sub (hid (p :: hs) H) (hid hs H) := fun a o e => by
  obtain ⟨n, q⟩ := hid_some e
  rw [hid_out fun m => n (List.mem_cons_of_mem _ m)]; exact q
theorem EDL.ed {xs : List PyData} (h : EDL K te st xs cs') : ED K te st (.list xs) cs' := fun hs ps σ H R Q q => h hs ps σ H R Q fun p vs H2 hp s R2 e a => by
  have hph : p ∉ hs := fun m => R.hr.trk p m hp
  refine q _ H2 s (R2.less (fun a m => List.mem_cons_of_mem _ m) R.hr.sub) ?_
  exact .lst (.inl (.inl (by rw [hid_out hph]; exact e))) (a.up hid_cons_sub)
theorem ed_var {i : Nat} (h : st.ds[i]? = some (some (.dat d))) : ED K (tVar i) st d st.cs := fun hs ps σ H R Q q => by
  obtain ⟨v, h1, h2⟩ := R.slot i _ h
  exact ⟨v, h1, q v H (Step.refl H) R h2⟩
theorem ed_c {v : V} (h : ∀ H, Dp K H v d) : ED K (tC v) st d st.cs := fun hs ps σ H R Q q => q v H (Step.refl H) R (h _)
/-- a two-place operation on data; it may make new things -/
def RD (K : PySem.W.Frag) (r : R2) (x y z : PyData) : Prop := ∀ (hs : List Addr) (H : Hp) (v w : V), (∀ a ∈ hs, H a ≠ none) → Dp K (hid hs H) v x → Dp K (hid hs H) w y →
  ∀ Q : VK, (∀ u H', Step [] H H' → Dp K (hid hs H') u z → Q u H') → r v w H Q
theorem ed_op {r : R2} (ha : ED K ta st x c1) (hb : ED K tb ⟨st.ds, c1⟩ y c2) (hr : RD K r x y z) : ED K (tOp r ta tb) st z c2 := fun hs ps σ H R Q q =>
  ha hs ps σ H R _ fun v H1 s1 R1 d1 => hb hs ps σ H1 R1 _ fun w H2 s2 R2 d2 => hr hs H2 v w R2.hr.trk (d1.up (s2.hd0 R.hr.sub)) d2 Q fun u H3 s3 d3 =>
    q u H3 ((s1.trans s2).trans (s3.mono (by simp))) (R2.step s3) d3
def RU (K : PySem.W.Frag) (r : V → Hp → VK → Prop) (x z : PyData) : Prop := ∀ (hs : List Addr) (H : Hp) (v : V), (∀ a ∈ hs, H a ≠ none) → Dp K (hid hs H) v x →
  ∀ Q : VK, (∀ u H', Step [] H H' → Dp K (hid hs H') u z → Q u H') → r v H Q
theorem ed_un {r : V → Hp → VK → Prop} (ha : ED K ta st x c1) (hr : RU K r x z) : ED K (tUn r ta) st z c1 := fun hs ps σ H R Q q =>
  ha hs ps σ H R _ fun v H1 s1 R1 d1 => hr hs H1 v R1.hr.trk d1 Q fun u H3 s3 d3 => q u H3 (s1.trans (s3.mono (by simp))) (R1.step s3) d3
theorem eda_nil : EDA K tNil st [] st.cs := fun hs ps σ H R Q q => q [] H (Step.refl H) R .nil
theorem Paired.up {hs ps : List Addr} {H H' : Hp} (s : Sub (hid hs H) (hid hs H')) : ∀ {vs : List V} {xs : List SV}, Paired (RelS K hs ps H) vs xs → Paired (RelS K hs ps H') vs xs
  | _, _, .nil => .nil
  | _, _, .cons a t => .cons (a.up s) (Paired.up s t)
theorem eda_cons {tr : TA} {xs : List SV} (ha : ED K ta st x c1) (hr : EDA K tr ⟨st.ds, c1⟩ xs c2) : EDA K (tCons ta tr) st (.dat x :: xs) c2 := fun hs ps σ H R Q q =>
  ha hs ps σ H R _ fun v H1 s1 R1 d1 => hr hs ps σ H1 R1 _ fun vs H2 s2 R2 a2 => q (v :: vs) H2 (s1.trans s2) R2 (.cons (d1.up (s2.hd0 R.hr.sub)) a2)
theorem eda_cel {tr : TA} {xs : List SV} {i k : Nat} (h : st.ds[i]? = some (some (.cel k))) (hr : EDA K tr st xs c2) : EDA K (tCons (tVar i) tr) st (.cel k :: xs) c2 := fun hs ps σ H R Q q => by
  obtain ⟨v, h1, h2⟩ := R.slot i _ h
  exact ⟨v, h1, hr hs ps σ H R _ fun vs H2 s2 R2 a2 => q (v :: vs) H2 s2 R2 (.cons h2 a2)⟩
end
end DL


set_option Elab.async false
set_option linter.all false
set_option maxRecDepth 100000
set_option maxHeartbeats 4000000
namespace DL
open PySem PySem.Spec L2
open PyProof.Rows hiding St

/-! ### the readings that say the least -/
def wE (X : Cx) (e : Expr) : TE := fun σ H Q => ∀ pins s, Inv X pins σ H s → wpAny (model X.prog X.w) X.A (eval e X.env) (EP X pins σ Q) X.xe s
def wT (X : Cx) (e : Expr) : TT := fun σ H Q => ∀ pins s, Inv X pins σ H s → wpAny (model X.prog X.w) X.A (isTrue e X.env (eval e X.env)) (TP X pins σ Q) X.xe s
def wW (X : Cx) (e : Expr) : TT := fun σ H Q => ∀ whole pins s, Inv X pins σ H s → wpAny (model X.prog X.w) X.A (isTrue e X.env whole) (TP X pins σ Q) X.xe s
def wA (X : Cx) (es : List Expr) : TA := fun σ H Q => ∀ pos pins s, Inv X pins σ H s → wpAny (model X.prog X.w) X.A (spliced (backTo pos (starEach es X.env))) (AP X pins σ Q) X.xe s
def wS (X : Cx) (st : Stmt) : TS := fun D σ H => ∀ pins s, Inv X pins σ H s → wpAny (model X.prog X.w) X.A (exec st X.env) (SP X pins D) X.xe s
def wSs (X : Cx) (st : List Stmt) : TS := fun D σ H => ∀ pins s, Inv X pins σ H s → wpAny (model X.prog X.w) X.A (execs st X.env) (SP X pins D) X.xe s
def wI (X : Cx) (tg iter : Expr) : TI := fun σ H R => ∀ pins s, Inv X pins σ H s → wpAny (model X.prog X.w) X.A (eval iter X.env) (fun v s1 => wpAny (model X.prog X.w) X.A (pyIter v) (PIE X pins σ tg R) X.xe s1) X.xe s
section
variable {X : Cx}
theorem pwE (e : Expr) : PE X e (wE X e) := ⟨fun pins s _ _ _ I h => h pins s I⟩
theorem pwT (e : Expr) : PT X e (wT X e) := ⟨fun pins s _ _ _ I h => h pins s I⟩
theorem pwW (e : Expr) : PW X e (wW X e) := ⟨fun w pins s _ _ _ I h => h w pins s I⟩
theorem pwA (es : List Expr) : PA X es (wA X es) := ⟨fun pos pins s _ _ _ I h => h pos pins s I⟩
theorem pwS (st : Stmt) : PS X st (wS X st) := ⟨fun pins s _ _ _ I h => h pins s I⟩
theorem pwSs (st : List Stmt) : PSs X st (wSs X st) := ⟨fun pins s _ _ _ I h => h pins s I⟩
theorem pwI (tg iter : Expr) : PI X tg iter (wI X tg iter) := ⟨fun pins s _ _ _ I h => h pins s I⟩
end

/-! ### what a piece of syntax computes on data -/
abbrev Cs := List (List PyData)
abbrev FE := Sta → Option (PyData × Cs)
abbrev FT := Sta → Option (Bool × Cs)
abbrev FA := Sta → Option (List SV × Cs)
abbrev FL := Sta → Option (List PyData × Cs)
structure RE (X : Cx) (e : Expr) (f : FE) : Prop where
  h : ∀ st d c, f st = some (d, c) → ED X.K (wE X e) st d c
instance (X : Cx) (e : Expr) (f : FE) : CoeFun (RE X e f) (fun _ => ∀ st d c, f st = some (d, c) → ED X.K (wE X e) st d c) := ⟨fun r => r.h⟩
structure RT (X : Cx) (e : Expr) (f : FT) : Prop where
  h : ∀ st d c, f st = some (d, c) → EDT X.K (wT X e) st d c
instance (X : Cx) (e : Expr) (f : FT) : CoeFun (RT X e f) (fun _ => ∀ st d c, f st = some (d, c) → EDT X.K (wT X e) st d c) := ⟨fun r => r.h⟩
structure RW (X : Cx) (e : Expr) (f : FT) : Prop where
  h : ∀ st d c, f st = some (d, c) → EDT X.K (wW X e) st d c
instance (X : Cx) (e : Expr) (f : FT) : CoeFun (RW X e f) (fun _ => ∀ st d c, f st = some (d, c) → EDT X.K (wW X e) st d c) := ⟨fun r => r.h⟩
structure RA (X : Cx) (es : List Expr) (f : FA) : Prop where
  h : ∀ st d c, f st = some (d, c) → EDA X.K (wA X es) st d c
instance (X : Cx) (es : List Expr) (f : FA) : CoeFun (RA X es f) (fun _ => ∀ st d c, f st = some (d, c) → EDA X.K (wA X es) st d c) := ⟨fun r => r.h⟩
structure RL (X : Cx) (e : Expr) (f : FL) : Prop where
  h : ∀ st d c, f st = some (d, c) → EDL X.K (wE X e) st d c
instance (X : Cx) (e : Expr) (f : FL) : CoeFun (RL X e f) (fun _ => ∀ st d c, f st = some (d, c) → EDL X.K (wE X e) st d c) := ⟨fun r => r.h⟩
section
variable {X : Cx} {e : Expr} {st : Sta} {c : Cs}
theorem RE.of {t : TE} {d : PyData} (p : PE X e t) (k : ED X.K t st d c) : ED X.K (wE X e) st d c := fun hs ps σ H R Q q pins s I => p.run pins s σ H Q I (k hs ps σ H R Q q)
theorem RL.of {t : TE} {d : List PyData} (p : PE X e t) (k : EDL X.K t st d c) : EDL X.K (wE X e) st d c := fun hs ps σ H R Q q pins s I => p.run pins s σ H Q I (k hs ps σ H R Q q)
theorem RT.of {t : TT} {d : Bool} (p : PT X e t) (k : EDT X.K t st d c) : EDT X.K (wT X e) st d c := fun hs ps σ H R Q q pins s I => p.run pins s σ H Q I (k hs ps σ H R Q q)
theorem RW.of {t : TT} {d : Bool} (p : PW X e t) (k : EDT X.K t st d c) : EDT X.K (wW X e) st d c := fun hs ps σ H R Q q w pins s I => p.run w pins s σ H Q I (k hs ps σ H R Q q)
theorem RA.of {es : List Expr} {t : TA} {d : List SV} (p : PA X es t) (k : EDA X.K t st d c) : EDA X.K (wA X es) st d c := fun hs ps σ H R Q q pos pins s I => p.run pos pins s σ H Q I (k hs ps σ H R Q q)
end

/-! ### expressions -/
def fVar (i : Nat) : FE := fun st => match st.ds[i]? with
  | some (some (.dat d)) => some (d, st.cs)
  | _ => none
def fLit (d : PyData) : FE := fun st => some (d, st.cs)
def fOp (g : PyData → PyData → Option PyData) (a b : FE) : FE := fun st => (a st).bind fun p => (b ⟨st.ds, p.2⟩).bind fun q => (g p.1 q.1).map fun z => (z, q.2)
def fUn (g : PyData → Option PyData) (a : FE) : FE := fun st => (a st).bind fun p => (g p.1).map fun z => (z, p.2)
def fTup (a : FA) : FE := fun st => (a st).bind fun p => if p.1.length ≤ 100000 then (datsOf p.1).map fun ds => (.tuple ds, p.2) else none
where datsOf : List SV → Option (List PyData)
  | [] => some []
  | .dat d :: r => (datsOf r).map (d :: ·)
  | .cel _ :: _ => none
abbrev datsOf := fTup.datsOf
def fLst (a : FA) : FL := fun st => (a st).bind fun p => if p.1.length ≤ 100000 then (datsOf p.1).map fun ds => (ds, p.2) else none
def fNilA : FA := fun st => some ([], st.cs)
def fConsA (a : FE) (r : FA) : FA := fun st => (a st).bind fun p => (r ⟨st.ds, p.2⟩).map fun q => (.dat p.1 :: q.1, q.2)
def fCelA (i : Nat) (r : FA) : FA := fun st => match st.ds[i]? with
  | some (some (.cel k)) => (r st).map fun q => (.cel k :: q.1, q.2)
  | _ => none
def fOfL (a : FL) : FE := fun st => (a st).map fun p => (.list p.1, p.2)
theorem bind_some {α β : Type} {o : Option α} {f : α → Option β} {z : β} (h : o.bind f = some z) : ∃ x, o = some x ∧ f x = some z := Option.bind_eq_some_iff.mp h
theorem map_some {α β : Type} {o : Option α} {f : α → β} {z : β} (h : o.map f = some z) : ∃ x, o = some x ∧ f x = z := Option.map_eq_some_iff.mp h
theorem datsOf_dat : ∀ {xs : List SV} {ds : List PyData}, datsOf xs = some ds → xs = ds.map SV.dat
  | [], ds, h => by
    have h' := Option.some.inj h
    subst h'; rfl
  | .dat d :: r, ds, h => by
    obtain ⟨l, h1, rfl⟩ := map_some (show (datsOf r).map (d :: ·) = some ds from h)
    rw [datsOf_dat h1]; rfl
  | .cel _ :: _, _, h => by cases h
theorem paired_dat {K : PySem.W.Frag} {hs ps : List Addr} {H : Hp} : ∀ {ds : List PyData} {vs : List V}, Paired (RelS K hs ps H) vs (ds.map SV.dat) → DpAll K (hid hs H) vs ds
  | [], _, h => by cases h; exact .nil
  | _ :: _, _, h => by
    cases h with
    | cons a t => exact .cons a (paired_dat t)
/-! an argument that is no star -/
section
variable {env : PySem.Env} {es : List Expr}
theorem sn_name {x : Str} {p : Pos} : starEach (.Name x p :: es) env = (false, eval (.Name x p) env) :: starEach es env := rfl
theorem sn_const {c : Const} {j} {p : Pos} : starEach (.Constant c j p :: es) env = (false, eval (.Constant c j p) env) :: starEach es env := rfl
theorem sn_tup {l : List Expr} {j} {p : Pos} : starEach (.Tuple l j p :: es) env = (false, eval (.Tuple l j p) env) :: starEach es env := rfl
theorem sn_list {l : List Expr} {p : Pos} : starEach (.List l p :: es) env = (false, eval (.List l p) env) :: starEach es env := rfl
theorem sn_bin {a b : Expr} {o : Operator} {p : Pos} : starEach (.BinOp a o b p :: es) env = (false, eval (.BinOp a o b p) env) :: starEach es env := rfl
theorem sn_un {a : Expr} {o : UnaryOp} {p : Pos} : starEach (.UnaryOp o a p :: es) env = (false, eval (.UnaryOp o a p) env) :: starEach es env := rfl
theorem sn_bool {l : List Expr} {o : BoolOp} {p : Pos} : starEach (.BoolOp o l p :: es) env = (false, eval (.BoolOp o l p) env) :: starEach es env := rfl
theorem sn_cmp {a : Expr} {o : List CmpOp} {l : List Expr} {p : Pos} : starEach (.Compare a o l p :: es) env = (false, eval (.Compare a o l p) env) :: starEach es env := rfl
theorem sn_call {f : Expr} {l : List Expr} {k : List Keyword} {p : Pos} : starEach (.Call f l k p :: es) env = (false, eval (.Call f l k p) env) :: starEach es env := rfl
theorem sn_sub {a b : Expr} {p : Pos} : starEach (.Subscript a b p :: es) env = (false, eval (.Subscript a b p) env) :: starEach es env := rfl
theorem sn_if {a b c : Expr} {p : Pos} : starEach (.IfExp a b c p :: es) env = (false, eval (.IfExp a b c p) env) :: starEach es env := rfl
theorem sn_attr {a : Expr} {x : Str} {p : Pos} : starEach (.Attribute a x p :: es) env = (false, eval (.Attribute a x p) env) :: starEach es env := rfl
theorem sn_lc {a : Expr} {l : List Comprehension} {sc : Scope} {p : Pos} : starEach (.ListComp a l sc p :: es) env = (false, eval (.ListComp a l sc p) env) :: starEach es env := rfl
end
section
variable {X : Cx} {a b e : Expr} {es : List Expr} {pos : Pos} {fa fb : FE} {f : FA}
theorem re_var {i : Nat} {x : Str} (hN : X.N[i]? = some x) (hv : Vis X.env.scope x) (hd : (x == ("__debug__" : Str)) = false := by decide) (hcd : (x == ("__classdict__" : Str)) = false := by decide) : RE X (.Name x pos) (fVar i) := .mk fun st d c h => by
  unfold fVar at h
  split at h
  · rename_i d' e'
    cases h
    exact RE.of (pe_var hN hv hd hcd) (ed_var e')
  · cases h
theorem re_int {i : Int} {j} : RE X (.Constant (.int i) j pos) (fLit (.int i)) := .mk fun st d c h => by
  cases h; exact RE.of pe_int (ed_c fun _ => .int i)
theorem re_bl {i : Bool} {j} : RE X (.Constant (.bool i) j pos) (fLit (.bool i)) := .mk fun st d c h => by
  cases h; exact RE.of pe_bl (ed_c fun _ => .bl i)
theorem re_non {j} : RE X (.Constant .none j pos) (fLit .none) := .mk fun st d c h => by
  cases h; exact RE.of pe_non (ed_c fun _ => .non)
theorem re_str {i : Str} {j} : RE X (.Constant (.str i) j pos) (fLit (.str i)) := .mk fun st d c h => by
  cases h; exact RE.of pe_str (ed_c fun _ => .str i)
/-- a module's constant that stands in the written part -/
theorem re_glob {x : Str} {v : V} {u : Value} {d : PyData} (hg : Gl X x) (hm : X.mg x = some u) (r : RelV v u) (hd : ∀ H, Dp X.K H v d) (hdb : (x == ("__debug__" : Str)) = false := by decide) : RE X (.Name x pos) (fLit d) := .mk fun st d c h => by
  cases h; exact RE.of (pe_glob hg hm r hdb) (ed_c hd)
theorem re_op {op : Operator} {r : R2} {g : PyData → PyData → Option PyData} (ho : OpR X (binaryOp op) r) (hr : ∀ x y z, g x y = some z → RD X.K r x y z) (ha : RE X a fa) (hb : RE X b fb) : RE X (.BinOp a op b pos) (fOp g fa fb) := .mk fun st d c h => by
  obtain ⟨⟨x, c1⟩, h1, h⟩ := bind_some h
  obtain ⟨⟨y, c2⟩, h2, h⟩ := bind_some h
  obtain ⟨z, h3, e⟩ := map_some h
  cases e
  exact RE.of (pe_op ho (pwE a) (pwE b)) (ed_op (ha _ _ _ h1) (hb _ _ _ h2) (hr _ _ _ h3))
theorem re_cmp {op : CmpOp} {r : R2} {g : PyData → PyData → Option PyData} (ho : OpR X (compareOp op) r) (hr : ∀ x y z, g x y = some z → RD X.K r x y z) (ha : RE X a fa) (hb : RE X b fb) (hm : behindInMarks op b = false) : RE X (.Compare a [op] [b] pos) (fOp g fa fb) := .mk fun st d c h => by
  obtain ⟨⟨x, c1⟩, h1, h⟩ := bind_some h
  obtain ⟨⟨y, c2⟩, h2, h⟩ := bind_some h
  obtain ⟨z, h3, e⟩ := map_some h
  cases e
  exact RE.of (pe_cmpR ho (pwE a) (pwE b) hm) (ed_op (ha _ _ _ h1) (hb _ _ _ h2) (hr _ _ _ h3))
theorem re_un {op : UnaryOp} {r : V → Hp → VK → Prop} {g : PyData → Option PyData} (ho : UnR X (unaryOp op) r) (hr : ∀ x z, g x = some z → RU X.K r x z) (ha : RE X a fa) : RE X (.UnaryOp op a pos) (fUn g fa) := .mk fun st d c h => by
  obtain ⟨⟨x, c1⟩, h1, h⟩ := bind_some h
  obtain ⟨z, h3, e⟩ := map_some h
  cases e
  exact RE.of (pe_un ho (pwE a)) (ed_un (ha _ _ _ h1) (hr _ _ h3))
theorem ra_nil : RA X [] fNilA := .mk fun st d c h => by
  cases h; exact RA.of pa_nil eda_nil
theorem ra_cons (ha : RE X e fa) (hr : RA X es f) (hs : starEach (e :: es) X.env = (false, eval e X.env) :: starEach es X.env := by with_reducible first | exact sn_name | exact sn_const | exact sn_tup | exact sn_list | exact sn_bin | exact sn_un | exact sn_bool | exact sn_cmp | exact sn_call | exact sn_sub | exact sn_if | exact sn_attr | exact sn_lc) : RA X (e :: es) (fConsA fa f) := .mk fun st d c h => by
  obtain ⟨⟨x, c1⟩, h1, h⟩ := bind_some h
  obtain ⟨⟨xs, c2⟩, h2, e⟩ := map_some h
  cases e
  exact RA.of (pa_cons (pwE e) (pwA es) hs) (eda_cons (ha _ _ _ h1) (hr _ _ _ h2))
theorem ra_cel {i : Nat} {x : Str} (hN : X.N[i]? = some x) (hv : Vis X.env.scope x) (hr : RA X es f) (hd : (x == ("__debug__" : Str)) = false := by decide) (hcd : (x == ("__classdict__" : Str)) = false := by decide)
    (hs : starEach (.Name x pos :: es) X.env = (false, eval (.Name x pos) X.env) :: starEach es X.env := by rfl) : RA X (.Name x pos :: es) (fCelA i f) := .mk fun st d c h => by
  unfold fCelA at h
  split at h
  · rename_i k e'
    obtain ⟨⟨xs, c2⟩, h2, e⟩ := map_some h
    cases e
    exact RA.of (pa_cons (pe_var hN hv hd hcd) (pwA es) hs) (eda_cel e' (hr _ _ _ h2))
  · cases h
theorem re_tup {x1} (ha : RA X es f) : RE X (.Tuple es x1 pos) (fTup f) := .mk fun st d c h => by
  obtain ⟨⟨xs, c1⟩, h1, h⟩ := bind_some h
  simp only at h
  split at h
  · rename_i hl
    obtain ⟨ds, h2, e⟩ := map_some h
    cases e
    refine RE.of (pe_tup (pwA es)) fun hs ps σ H R Q q => ha _ _ _ h1 hs ps σ H R _ fun vs H2 s2 R2 p2 => ?_
    rw [datsOf_dat h2] at p2 hl
    have dd := paired_dat p2
    refine ⟨Nat.le_trans (by rw [dd.len]; simpa using hl) (by decide : 100000 ≤ sizeLine), fun p hp => ?_⟩
    have s3 : Step [] H2 (upd H2 p (.tup vs)) := Step.new hp
    have hph : p ∉ hs := fun m => R2.hr.trk p m hp
    exact q _ _ (s2.trans (s3.mono (by simp))) (R2.step s3) (.tup (.inl (.inl (by rw [hid_out hph]; exact upd_same))) (dd.up (s3.hd0 (by simp))))
  · cases h
theorem rl_lst (ha : RA X es f) : RL X (.List es pos) (fLst f) := .mk fun st d c h => by
  obtain ⟨⟨xs, c1⟩, h1, h⟩ := bind_some h
  simp only at h
  split at h
  · rename_i hl
    obtain ⟨ds, h2, e⟩ := map_some h
    cases e
    refine RL.of (pe_lst (pwA es)) fun hs ps σ H R Q q => ha _ _ _ h1 hs ps σ H R _ fun vs H2 s2 R2 p2 => ?_
    rw [datsOf_dat h2] at p2 hl
    have dd := paired_dat p2
    refine ⟨Nat.le_trans (by rw [dd.len]; simpa using hl) (by decide : 100000 ≤ sizeLine), fun p hp => ?_⟩
    have s3 : Step [] H2 (upd H2 p (.lst vs)) := Step.new hp
    have hp0 : H p = none := by
      cases hq : H p with
      | none => rfl
      | some o =>
        by_cases m : p ∈ ps
        · exact absurd hp (R2.hr.trk p (R2.hr.sub p m))
        · rw [s2 p o m hq] at hp; cases hp
    have e3 : ∀ a ∈ p :: hs, a ∉ hs → H2 a = none := fun a m n => by
      rcases List.mem_cons.mp m with e | m
      · rw [e]; exact hp
      · exact absurd m n
    exact q p vs _ hp0 (s2.trans (s3.mono (by simp))) (R2.more s3 hp (by rw [upd_same]; simp)) upd_same (dd.up ((s3.mono (qs := []) (by simp)).hd (by simp) e3))
  · cases h
theorem re_ofL {g : FL} (h : RL X e g) : RE X e (fOfL g) := .mk fun st d c hq => by
  obtain ⟨⟨xs, c1⟩, h1, e⟩ := map_some hq
  cases e
  exact (h _ _ _ h1).ed
end

/-! ### tests, and, or, not, if -/
def fTru (a : FE) : FT := fun st => (a st).bind fun p => match p.1 with
  | .bool b => some (b, p.2)
  | _ => none
def fAndT (a b : FT) : FT := fun st => (a st).bind fun p => if p.1 = true then b ⟨st.ds, p.2⟩ else some (false, p.2)
def fOrT (a b : FT) : FT := fun st => (a st).bind fun p => if p.1 = true then some (true, p.2) else b ⟨st.ds, p.2⟩
def fNotT (a : FT) : FT := fun st => (a st).map fun p => (!p.1, p.2)
def fAndV (a b : FE) : FE := fun st => (a st).bind fun p => match p.1 with
  | .bool c => if c = true then b ⟨st.ds, p.2⟩ else some (.bool false, p.2)
  | _ => none
def fOrV (a b : FE) : FE := fun st => (a st).bind fun p => match p.1 with
  | .bool c => if c = true then some (.bool true, p.2) else b ⟨st.ds, p.2⟩
  | _ => none
def fNotV (a : FE) : FE := fun st => (a st).bind fun p => match p.1 with
  | .bool c => some (.bool (!c), p.2)
  | _ => none
def fIf (t : FT) (a b : FE) : FE := fun st => (t st).bind fun p => if p.1 = true then a ⟨st.ds, p.2⟩ else b ⟨st.ds, p.2⟩
section
variable {X : Cx} {a b e : Expr} {rest : List Expr} {pos : Pos} {fa fb : FE} {f g : FT}
theorem dp_bool {K : PySem.W.Frag} {H : Hp} {v : V} {b : Bool} (h : Dp K H v (.bool b)) : v = .bl b := by cases h; rfl
theorem dp_int {K : PySem.W.Frag} {H : Hp} {v : V} {b : Int} (h : Dp K H v (.int b)) : v = .int b := by cases h; rfl
theorem rt_val (ha : RE X a fa) (he : ∀ whole, isTrue a X.env whole = (do let v ← whole; standAt a.pos; holding [v] (truthy v)) := by intro _; rfl) : RT X a (fTru fa) := .mk fun st d c h => by
  obtain ⟨⟨x, c1⟩, h1, h⟩ := bind_some h
  simp only at h
  split at h
  · cases h
    exact RT.of (pt_val (pwE a) he) fun hs ps σ H R Q q => ha _ _ _ h1 hs ps σ H R _ fun v H2 s2 R2 d2 => ⟨_, dp_bool d2, q H2 s2 R2⟩
  · cases h
theorem rt_w (h : RW X a f) : RT X a f := .mk fun st d c hq => RT.of (PW.pt (pwW a)) (h _ _ _ hq)
theorem rw_and1 (h : RT X a f) : RW X (.BoolOp .And [a] pos) f := .mk fun st d c hq => RW.of (pw_and1 (pwT a)) (h _ _ _ hq)
theorem rw_or1 (h : RT X a f) : RW X (.BoolOp .Or [a] pos) f := .mk fun st d c hq => RW.of (pw_or1 (pwT a)) (h _ _ _ hq)
theorem rw_and (ha : RT X a f) (hb : RW X (.BoolOp .And (b :: rest) pos) g) : RW X (.BoolOp .And (a :: b :: rest) pos) (fAndT f g) := .mk fun st d c h => by
  obtain ⟨⟨x, c1⟩, h1, h⟩ := bind_some h
  refine RW.of (pw_and (pwT a) (pwW _)) fun hs ps σ H R Q q => ha _ _ _ h1 hs ps σ H R _ fun H2 s2 R2 => ?_
  simp only at h
  cases x with
  | true =>
    rw [if_pos rfl] at h ⊢
    exact hb _ _ _ h hs ps σ H2 R2 _ fun H3 s3 R3 => q H3 (s2.trans s3) R3
  | false =>
    rw [if_neg (by decide)] at h ⊢
    cases h
    exact q H2 s2 R2
theorem rw_or (ha : RT X a f) (hb : RW X (.BoolOp .Or (b :: rest) pos) g) : RW X (.BoolOp .Or (a :: b :: rest) pos) (fOrT f g) := .mk fun st d c h => by
  obtain ⟨⟨x, c1⟩, h1, h⟩ := bind_some h
  refine RW.of (pw_or (pwT a) (pwW _)) fun hs ps σ H R Q q => ha _ _ _ h1 hs ps σ H R _ fun H2 s2 R2 => ?_
  simp only at h
  cases x with
  | true =>
    rw [if_pos rfl] at h ⊢
    cases h
    exact q H2 s2 R2
  | false =>
    rw [if_neg (by decide)] at h ⊢
    exact hb _ _ _ h hs ps σ H2 R2 _ fun H3 s3 R3 => q H3 (s2.trans s3) R3
theorem rt_not (h : RT X a f) : RT X (.UnaryOp .Not a pos) (fNotT f) := .mk fun st d c hq => by
  obtain ⟨⟨x, c1⟩, h1, e⟩ := map_some hq
  cases e
  exact RT.of (pt_not (pwT a)) fun hs ps σ H R Q q => h _ _ _ h1 hs ps σ H R _ fun H2 s2 R2 => q H2 s2 R2
theorem re_one {op} (h : RE X a fa) : RE X (.BoolOp op [a] pos) fa := .mk fun st d c hq => RE.of (pe_one (pwE a)) (h _ _ _ hq)
theorem re_and (ha : RE X a fa) (hb : RE X (.BoolOp .And (b :: rest) pos) fb) : RE X (.BoolOp .And (a :: b :: rest) pos) (fAndV fa fb) := .mk fun st d c h => by
  obtain ⟨⟨x, c1⟩, h1, h⟩ := bind_some h
  simp only at h
  split at h
  · rename_i _ k
    refine RE.of (pe_and (pwE a) (pwE _)) fun hs ps σ H R Q q => ha _ _ _ h1 hs ps σ H R _ fun v H2 s2 R2 d2 => ⟨_, dp_bool d2, ?_⟩
    cases k with
    | true =>
      rw [if_pos rfl] at h ⊢
      exact hb _ _ _ h hs ps σ H2 R2 _ fun w H3 s3 R3 d3 => q w H3 (s2.trans s3) R3 d3
    | false =>
      rw [if_neg (by decide)] at h ⊢
      cases h
      exact q _ H2 s2 R2 (.bl _)
  · cases h
theorem re_or (ha : RE X a fa) (hb : RE X (.BoolOp .Or (b :: rest) pos) fb) : RE X (.BoolOp .Or (a :: b :: rest) pos) (fOrV fa fb) := .mk fun st d c h => by
  obtain ⟨⟨x, c1⟩, h1, h⟩ := bind_some h
  simp only at h
  split at h
  · rename_i _ k
    refine RE.of (pe_or (pwE a) (pwE _)) fun hs ps σ H R Q q => ha _ _ _ h1 hs ps σ H R _ fun v H2 s2 R2 d2 => ⟨_, dp_bool d2, ?_⟩
    cases k with
    | true =>
      rw [if_pos rfl] at h ⊢
      cases h
      exact q _ H2 s2 R2 (.bl _)
    | false =>
      rw [if_neg (by decide)] at h ⊢
      exact hb _ _ _ h hs ps σ H2 R2 _ fun w H3 s3 R3 d3 => q w H3 (s2.trans s3) R3 d3
  · cases h
theorem re_not (ha : RE X a fa) : RE X (.UnaryOp .Not a pos) (fNotV fa) := .mk fun st d c h => by
  obtain ⟨⟨x, c1⟩, h1, h⟩ := bind_some h
  simp only at h
  split at h
  · rename_i _ k
    cases h
    exact RE.of (pe_not (pwE a)) fun hs ps σ H R Q q => ha _ _ _ h1 hs ps σ H R _ fun v H2 s2 R2 d2 => ⟨_, dp_bool d2, q _ H2 s2 R2 (.bl _)⟩
  · cases h
theorem re_if {cc : Expr} (hc : RT X cc f) (ha : RE X a fa) (hb : RE X b fb) : RE X (.IfExp cc a b pos) (fIf f fa fb) := .mk fun st d c h => by
  obtain ⟨⟨x, c1⟩, h1, h⟩ := bind_some h
  refine RE.of (pe_ifExp (pwT cc) (pwE a) (pwE b)) fun hs ps σ H R Q q => hc _ _ _ h1 hs ps σ H R _ fun H2 s2 R2 => ?_
  simp only at h
  cases x with
  | true =>
    rw [if_pos rfl] at h ⊢
    exact ha _ _ _ h hs ps σ H2 R2 _ fun w H3 s3 R3 d3 => q w H3 (s2.trans s3) R3 d3
  | false =>
    rw [if_neg (by decide)] at h ⊢
    exact hb _ _ _ h hs ps σ H2 R2 _ fun w H3 s3 R3 d3 => q w H3 (s2.trans s3) R3 d3
end
end DL


set_option Elab.async false
set_option linter.all false
set_option maxRecDepth 100000
set_option maxHeartbeats 4000000
namespace DL
open PySem PySem.Spec L2
open PyProof.Rows hiding St

/-! ### operators on data -/
section
variable {X : Cx}
theorem OpR.or {f : Value → Value → Sem Value} {r r' : R2} (h : OpR X f r) (h' : OpR X f r') : OpR X f (fun x y H Q => r x y H Q ∨ r' x y H Q) := by
  intro pins s σ H x y v u Q I rx ry q
  rcases q with q | q
  · exact h pins s σ H x y v u Q I rx ry q
  · exact h' pins s σ H x y v u Q I rx ry q
/-- + of two lists that are read -/
def rCatS (K : PySem.W.Frag) : R2 := fun x y H Q => ∃ l b xs zs, x = .ref l ∧ y = .ref b ∧ SqL K H l xs ∧ SqL K H b zs ∧ xs.length + zs.length ≤ sizeLine ∧ ∀ p, H p = none → Q (.ref p) (upd H p (.lst (xs ++ zs)))
theorem op_catS : OpR X (binaryOp .Add) (rCatS X.K) := by
  intro pins s σ H x y v u Q I rx ry h
  obtain ⟨l, b, xs, zs, rfl, rfl, hH, hB, hz, q⟩ := h
  cases rx
  cases ry
  obtain ⟨its, r, ⟨⟨cls, dd, data, sl⟩, n1, e1, c1, d1, k1⟩, z⟩ := I.list hH
  obtain ⟨its2, r2, ⟨⟨cls2, dd2, data2, sl2⟩, n2, e2, c2, d2, k2⟩, z2⟩ := I.list hB
  simp only at c1 d1 k1 c2 d2 k2
  subst c1 d1 k1 c2 d2 k2
  have h1 := r.length
  have h2 := r2.length
  have ea : its.toArray ++ its2.toArray = (its ++ its2).toArray := by simp
  refine concat_meets ⟨_, e1, rfl⟩ ⟨_, e2, rfl⟩ noFill_list_add seq_list_add PySem.F.slot_list_add PySem.F.entry_list_add (PySem.F.args_list_add_2 _ _) (list_addW l b its.toArray its2.toArray n1 n2 none none sl sl2 (by simp only [List.size_toArray]; omega)) ⟨e1, e2, ?_⟩
  rw [ea]
  exact ⟨.ref _, _, I.lnew (t' := s.toks) (r.append r2) (by rw [List.length_append]; omega), rfl, q _ I.fresh⟩
end
abbrev LIM : Nat := 100000
def mulOk (i j : Int) : Bool := decide (i.natAbs.log2 + j.natAbs.log2 < 1000000)
def divOk (i j : Int) : Bool := decide (0 < j ∧ j.natAbs.log2 < 9000)
def powOk (i j : Int) : Bool := decide (0 ≤ j ∧ j ≤ 1000000 ∧ i.natAbs < 2 ^ 64)
def gAdd : PyData → PyData → Option PyData
  | .int i, .int j => some (.int (i + j))
  | _, _ => none
def gCat : PyData → PyData → Option PyData
  | .list xs, .list ys => if xs.length + ys.length ≤ LIM then some (.list (xs ++ ys)) else none
  | _, _ => none
def gSub : PyData → PyData → Option PyData
  | .int i, .int j => some (.int (i - j))
  | _, _ => none
def gMul : PyData → PyData → Option PyData
  | .int i, .int j => if mulOk i j = true then some (.int (i * j)) else none
  | _, _ => none
def gDiv : PyData → PyData → Option PyData
  | .int i, .int j => if divOk i j = true then some (.int (i / j)) else none
  | _, _ => none
def gMod : PyData → PyData → Option PyData
  | .int i, .int j => if 0 < j then some (.int (i % j)) else none
  | _, _ => none
def gPow : PyData → PyData → Option PyData
  | .int i, .int j => if powOk i j = true then some (.int (i ^ j.toNat)) else none
  | _, _ => none
def gNeg : PyData → Option PyData
  | .int i => some (.int (-i))
  | _ => none
def gCmp (p : Int → Int → Bool) : PyData → PyData → Option PyData
  | .int i, .int j => some (.bool (p i j))
  | _, _ => none
def gEq (x y : PyData) : Option PyData := if SeqAt.shaped x = true ∧ SeqAt.shaped y = true then some (.bool (PyData.eqv x y)) else none
def gNe (x y : PyData) : Option PyData := if SeqAt.shaped x = true ∧ SeqAt.shaped y = true then some (.bool (!PyData.eqv x y)) else none
def isNone : PyData → Bool
  | .none => true
  | _ => false
def gIsN (x y : PyData) : Option PyData := if isNone y = true then some (.bool (isNone x)) else none
def gNotN (x y : PyData) : Option PyData := if isNone y = true then some (.bool (!isNone x)) else none
section
variable {X : Cx} {K : PySem.W.Frag} {a b e : Expr} {pos : Pos} {fa fb : FE} {H : Hp}
theorem rd_int {C : Int → Int → Prop} {f : Int → Int → V} {i j : Int} {z : PyData} (hc : C i j) (hz : ∀ H, Dp K H (f i j) z) : RD K (rI C f) (.int i) (.int j) z := fun hs H v w _ h1 h2 Q q =>
  ⟨i, j, dp_int h1, dp_int h2, hc, q _ H (Step.refl H) (hz _)⟩
theorem rd_int0 {f : Int → Int → V} {i j : Int} {z : PyData} (hz : ∀ H, Dp K H (f i j) z) : RD K (rI0 f) (.int i) (.int j) z := fun hs H v w _ h1 h2 Q q =>
  ⟨i, j, dp_int h1, dp_int h2, q _ H (Step.refl H) (hz _)⟩
theorem dp_list {v : V} {ds : List PyData} (h : Dp K H v (.list ds)) : ∃ p xs, v = .ref p ∧ SqL K H p xs ∧ DpAll K H xs ds := by
  cases h with
  | lst a b => exact ⟨_, _, rfl, a, b⟩
theorem dp_tuple {v : V} {ds : List PyData} (h : Dp K H v (.tuple ds)) : ∃ p xs, v = .ref p ∧ SqT K H p xs ∧ DpAll K H xs ds := by
  cases h with
  | tup a b => exact ⟨_, _, rfl, a, b⟩
theorem dp_non {v : V} (h : Dp K H v .none) : v = .non := by cases h; rfl
theorem dp_str {v : V} {z : Str} (h : Dp K H v (.str z)) : v = .str z := by cases h; rfl
theorem lim_ok {n : Nat} (h : n ≤ LIM) : n ≤ sizeLine := Nat.le_trans h (by decide)
theorem re_add (ha : RE X a fa) (hb : RE X b fb) : RE X (.BinOp a .Add b pos) (fOp gAdd fa fb) := re_op op_add (fun x y z h => by
  unfold gAdd at h
  split at h <;> cases h
  exact rd_int0 fun _ => .int _) ha hb
theorem re_sub (ha : RE X a fa) (hb : RE X b fb) : RE X (.BinOp a .Sub b pos) (fOp gSub fa fb) := re_op op_sub (fun x y z h => by
  unfold gSub at h
  split at h <;> cases h
  exact rd_int0 fun _ => .int _) ha hb
theorem re_mul (ha : RE X a fa) (hb : RE X b fb) : RE X (.BinOp a .Mult b pos) (fOp gMul fa fb) := re_op op_mulW (fun x y z h => by
  unfold gMul at h
  split at h
  · split at h <;> cases h
    rename_i hm
    exact rd_int (by first | simpa [mulOk, CMulW] using hm | simpa [divOk, CDivW] using hm | simpa [powOk, CPow] using hm) fun _ => .int _
  · cases h) ha hb
theorem re_div (ha : RE X a fa) (hb : RE X b fb) : RE X (.BinOp a .FloorDiv b pos) (fOp gDiv fa fb) := re_op op_fdivW (fun x y z h => by
  unfold gDiv at h
  split at h
  · split at h <;> cases h
    rename_i hm
    exact rd_int (by first | simpa [mulOk, CMulW] using hm | simpa [divOk, CDivW] using hm | simpa [powOk, CPow] using hm) fun _ => .int _
  · cases h) ha hb
theorem re_mod (ha : RE X a fa) (hb : RE X b fb) : RE X (.BinOp a .Mod b pos) (fOp gMod fa fb) := re_op op_mod (fun x y z h => by
  unfold gMod at h
  split at h
  · split at h <;> cases h
    rename_i hm
    exact rd_int hm fun _ => .int _
  · cases h) ha hb
theorem re_pow (ha : RE X a fa) (hb : RE X b fb) : RE X (.BinOp a .Pow b pos) (fOp gPow fa fb) := re_op op_pow (fun x y z h => by
  unfold gPow at h
  split at h
  · split at h <;> cases h
    rename_i hm
    exact rd_int (by first | simpa [mulOk, CMulW] using hm | simpa [divOk, CDivW] using hm | simpa [powOk, CPow] using hm) fun _ => .int _
  · cases h) ha hb
theorem re_neg (ha : RE X a fa) : RE X (.UnaryOp .USub a pos) (fUn gNeg fa) := re_un un_neg (fun x z h => by
  unfold gNeg at h
  split at h <;> cases h
  exact fun hs H v _ h1 Q q => ⟨_, dp_int h1, q _ H (Step.refl H) (.int _)⟩) ha
theorem re_cat (ha : RE X a fa) (hb : RE X b fb) : RE X (.BinOp a .Add b pos) (fOp gCat fa fb) := re_op op_catS (fun x y z h => by
  unfold gCat at h
  split at h
  · split at h <;> cases h
    rename_i xs ys hl
    intro hs H v w ht h1 h2 Q q
    obtain ⟨p, vs, rfl, hp, da⟩ := dp_list h1
    obtain ⟨p2, ws, rfl, hp2, db⟩ := dp_list h2
    refine ⟨p, p2, vs, ws, rfl, rfl, sqL_mono hid_sub hp, sqL_mono hid_sub hp2, lim_ok (by rw [da.len, db.len]; exact hl), fun t ht' => ?_⟩
    have s3 : Step [] H (upd H t (.lst (vs ++ ws))) := Step.new ht'
    have hph : t ∉ hs := fun m => ht t m ht'
    exact q _ _ s3 (.lst (.inl (.inl (by rw [hid_out hph]; exact upd_same))) ((da.app db).up (s3.hd0 (by simp))))
  · cases h) ha hb
theorem rd_cmp {f : Int → Int → Bool} {x y z : PyData} (h : gCmp f x y = some z) : RD K (rI0 fun i j => .bl (f i j)) x y z := by
  unfold gCmp at h
  split at h <;> cases h
  exact rd_int0 fun _ => .bl _
theorem re_lt (ha : RE X a fa) (hb : RE X b fb) : RE X (.Compare a [.Lt] [b] pos) (fOp (gCmp fun i j => decide (i < j)) fa fb) := re_cmp op_lt (fun _ _ _ h => rd_cmp h) ha hb (nomark _)
theorem re_le (ha : RE X a fa) (hb : RE X b fb) : RE X (.Compare a [.LtE] [b] pos) (fOp (gCmp fun i j => decide (i ≤ j)) fa fb) := re_cmp op_le (fun _ _ _ h => rd_cmp h) ha hb (nomark _)
theorem re_gt (ha : RE X a fa) (hb : RE X b fb) : RE X (.Compare a [.Gt] [b] pos) (fOp (gCmp fun i j => decide (j < i)) fa fb) := re_cmp op_gt (fun _ _ _ h => rd_cmp h) ha hb (nomark _)
theorem re_ge (ha : RE X a fa) (hb : RE X b fb) : RE X (.Compare a [.GtE] [b] pos) (fOp (gCmp fun i j => decide (j ≤ i)) fa fb) := re_cmp op_ge (fun _ _ _ h => rd_cmp h) ha hb (nomark _)
theorem re_eq (hu : X.A.units + 64 < cLine) (ha : RE X a fa) (hb : RE X b fb) : RE X (.Compare a [.Eq] [b] pos) (fOp gEq fa fb) := re_cmp (op_eqD hu) (fun x y z h => by
  unfold gEq at h
  split at h <;> cases h
  rename_i hs
  exact fun _ H v w _ h1 h2 Q q => ⟨x, y, h1.up hid_sub, h2.up hid_sub, hs.1, hs.2, q _ H (Step.refl H) (.bl _)⟩) ha hb (nomark _)
theorem re_ne (hu : X.A.units + 64 < cLine) (ha : RE X a fa) (hb : RE X b fb) : RE X (.Compare a [.NotEq] [b] pos) (fOp gNe fa fb) := re_cmp (op_neD hu) (fun x y z h => by
  unfold gNe at h
  split at h <;> cases h
  rename_i hs
  exact fun _ H v w _ h1 h2 Q q => ⟨x, y, h1.up hid_sub, h2.up hid_sub, hs.1, hs.2, q _ H (Step.refl H) (.bl _)⟩) ha hb (nomark _)
theorem isNone_dp {v : V} {x : PyData} (h : Dp K H v x) : decide (v = .non) = isNone x := by cases h <;> rfl
theorem isNone_eq {y : PyData} (h : isNone y = true) : y = .none := by cases y <;> first | rfl | cases h
theorem re_isN (ha : RE X a fa) (hb : RE X b fb) (hm : behindInMarks .Is b = false := by exact nomark _) : RE X (.Compare a [.Is] [b] pos) (fOp gIsN fa fb) := re_cmp op_isN (fun x y z h => by
  unfold gIsN at h
  split at h <;> cases h
  rename_i hs
  cases isNone_eq hs
  exact fun _ H v w _ h1 h2 Q q => ⟨dp_non h2, q _ H (Step.refl H) (by rw [isNone_dp h1]; exact .bl _)⟩) ha hb hm
theorem re_notN (ha : RE X a fa) (hb : RE X b fb) (hm : behindInMarks .IsNot b = false := by exact nomark _) : RE X (.Compare a [.IsNot] [b] pos) (fOp gNotN fa fb) := re_cmp op_notN (fun x y z h => by
  unfold gNotN at h
  split at h <;> cases h
  rename_i hs
  cases isNone_eq hs
  exact fun _ H v w _ h1 h2 Q q => ⟨dp_non h2, q _ H (Step.refl H) (by rw [isNone_dp h1]; exact .bl _)⟩) ha hb hm

/-! ### subscripts -/
def gIx : PyData → PyData → Option PyData
  | .list xs, .int i => atI xs i
  | .tuple xs, .int i => atI xs i
  | _, _ => none
theorem atI_dp {vs : List V} {ds : List PyData} {i : Int} {d : PyData} (h : DpAll K H vs ds) (e : atI ds i = some d) : ∃ v, atI vs i = some v ∧ Dp K H v d := by
  unfold atI at e ⊢
  rw [h.len]
  obtain ⟨j, e1, e2⟩ := Option.bind_eq_some_iff.mp e
  obtain ⟨v, h1, h2⟩ := h.get e2
  exact ⟨v, by rw [e1]; exact h1, h2⟩
theorem rd_ix {x y z : PyData} (h3 : gIx x y = some z) : RD K (rIx K) x y z := by
  unfold gIx at h3
  split at h3
  · intro hs H v w _ d1 d2 Q q
    obtain ⟨p, vs, rfl, hp, da⟩ := dp_list d1
    cases dp_int d2
    obtain ⟨u, e1, e2⟩ := atI_dp da h3
    exact .inl ⟨p, vs, _, u, rfl, rfl, sqL_mono hid_sub hp, e1, q _ H (Step.refl H) e2⟩
  · intro hs H v w _ d1 d2 Q q
    obtain ⟨p, vs, rfl, hp, da⟩ := dp_tuple d1
    cases dp_int d2
    obtain ⟨u, e1, e2⟩ := atI_dp da h3
    exact .inr (.inl ⟨p, vs, _, u, rfl, rfl, sqT_mono hid_sub hp, e1, q _ H (Step.refl H) e2⟩)
  · cases h3
theorem re_ix (ha : RE X a fa) (hb : RE X b fb) (hs : PlainIx b := by exact fun _ _ => rfl) : RE X (.Subscript a b pos) (fOp gIx fa fb) := .mk fun st d c h => by
  obtain ⟨⟨x, c1⟩, h1, h⟩ := bind_some h
  obtain ⟨⟨y, c2⟩, h2, h⟩ := bind_some h
  obtain ⟨z, h3, e⟩ := map_some h
  cases e
  exact RE.of (pe_ix ix_seq (pwE a) (pwE b) hs) (ed_op (ha _ _ _ h1) (hb _ _ _ h2) (rd_ix h3))
/-- x[k], x a list of one's own -/
def fCix (i : Nat) (b : FE) : FE := fun st => (b st).bind fun q => match st.ds[i]? with
  | some (some (.cel k)) => match q.2[k]?, q.1 with
    | some xs, .int j => (atI xs j).map fun z => (z, q.2)
    | _, _ => none
  | _ => none
theorem re_cix {i : Nat} {x : Str} {p0 : Pos} (hN : X.N[i]? = some x) (hv : Vis X.env.scope x) (hb : RE X b fb) (hd : (x == ("__debug__" : Str)) = false := by decide) (hcd : (x == ("__classdict__" : Str)) = false := by decide)
    (hs : PlainIx b := by exact fun _ _ => rfl) : RE X (.Subscript (.Name x p0) b pos) (fCix i fb) := .mk fun st d c h => by
  obtain ⟨⟨y, c2⟩, h2, h⟩ := bind_some h
  simp only at h
  split at h
  · rename_i k e0
    split at h
    · rename_i xs j e1
      obtain ⟨z, e2, e3⟩ := map_some h
      cases e3
      refine RE.of (pe_ix ix_seq (pe_var hN hv hd hcd) (pwE b) hs) fun hs ps σ H R Q q => ?_
      obtain ⟨v, h1, p, hp, rfl⟩ := R.slot i _ e0
      refine ⟨_, h1, hb _ _ _ h2 hs ps σ H R _ fun w H2 s2 R2 d2 => ?_⟩
      cases dp_int d2
      obtain ⟨vs, q1, q2⟩ := R2.hr.cel k p xs hp e1
      obtain ⟨u, e4, e5⟩ := atI_dp q2 e2
      exact .inl ⟨p, vs, _, u, rfl, rfl, .inl (.inl q1), e4, q u H2 s2 R2 e5⟩
    · cases h
  · cases h
/-! slices -/
def fPart (a : FE) : Sta → Option (Option Int × Cs) := fun st => (a st).bind fun p => match p.1 with
  | .int i => some (some i, p.2)
  | _ => none
def fNoPart : Sta → Option (Option Int × Cs) := fun st => some (none, st.cs)
def EDO (K : PySem.W.Frag) (to : TO) (st : Sta) (o : Option Int) (cs' : Cs) : Prop :=
  ∀ hs ps σ H, Rel K hs ps σ H st → ∀ Q : Option Int → Hp → Prop, (∀ H2, Step ps H H2 → Rel K hs ps σ H2 ⟨st.ds, cs'⟩ → Q o H2) → to σ H Q
structure RO (X : Cx) (e : Option Expr) (f : Sta → Option (Option Int × Cs)) : Prop where
  h : ∃ to, PO X e to ∧ ∀ st o c, f st = some (o, c) → EDO X.K to st o c
theorem ro_none : RO X none fNoPart := ⟨_, po_none, fun st o c h => by
  cases h
  exact fun hs ps σ H R Q q => q H (Step.refl H) R⟩
theorem ro_some (ha : RE X a fa) : RO X (some a) (fPart fa) := ⟨_, po_some (pwE a), fun st o c h => by
  obtain ⟨⟨x, c1⟩, h1, h⟩ := bind_some h
  simp only at h
  split at h
  · cases h
    exact fun hs ps σ H R Q q => ha _ _ _ h1 hs ps σ H R _ fun v H2 s2 R2 d2 => ⟨_, dp_int d2, q H2 s2 R2⟩
  · cases h⟩
def cutD (xs : List PyData) (lo hi : Option Int) : List PyData := (xs.drop (HT.sIx xs.length 0 lo)).take (HT.sIx xs.length xs.length hi - HT.sIx xs.length 0 lo)
def fSlL (a : FE) (l u : Sta → Option (Option Int × Cs)) : FL := fun st => (a st).bind fun p => (l ⟨st.ds, p.2⟩).bind fun q => (u ⟨st.ds, q.2⟩).bind fun r => match p.1 with
  | .list xs => some (cutD xs q.1 r.1, r.2)
  | _ => none
theorem fresh_back {H H' : Hp} {p : Addr} {hs ps : List Addr} {cs : Cs} (s : Step ps H H') (R : HR K hs ps H' cs) (h : H' p = none) : H p = none := by
  cases hq : H p with
  | none => rfl
  | some o =>
    by_cases m : p ∈ ps
    · exact absurd h (R.trk p (R.sub p m))
    · rw [s p o m hq] at h; cases h
theorem fresh_hid {H : Hp} {p : Addr} {hs : List Addr} (hp : H p = none) : ∀ a ∈ p :: hs, a ∉ hs → H a = none := fun a m n => by
  rcases List.mem_cons.mp m with e | m
  · rw [e]; exact hp
  · exact absurd m n
/-- a list is laid -/
theorem lay_list {hs ps : List Addr} {σ : St} {H H2 : Hp} {st : Sta} {p : Addr} {vs : List V} {ds : List PyData} (s2 : Step ps H H2) (R2 : Rel K hs ps σ H2 st) (hp : H2 p = none) (dd : DpAll K (hid hs H2) vs ds) :
    H p = none ∧ Step ps H (upd H2 p (.lst vs)) ∧ Rel K (p :: hs) ps σ (upd H2 p (.lst vs)) st ∧ (upd H2 p (.lst vs)) p = some (.lst vs) ∧ DpAll K (hid (p :: hs) (upd H2 p (.lst vs))) vs ds := by
  have s3 : Step [] H2 (upd H2 p (.lst vs)) := Step.new hp
  exact ⟨fresh_back s2 R2.hr hp, s2.trans (s3.mono (by simp)), R2.more s3 hp (by rw [upd_same]; simp), upd_same, dd.up ((s3.mono (qs := []) (by simp)).hd (by simp) (fresh_hid hp))⟩
theorem rl_sl {lo hi : Option Expr} {fl fu : Sta → Option (Option Int × Cs)} {p2 : Pos} (ha : RE X a fa) (hl : RO X lo fl) (hu : RO X hi fu) : RL X (.Subscript a (.Slice lo hi none p2) pos) (fSlL fa fl fu) := .mk fun st d c h => by
  obtain ⟨⟨x, c1⟩, h1, h⟩ := bind_some h
  obtain ⟨⟨y, c2⟩, h2, h⟩ := bind_some h
  obtain ⟨⟨z, c3⟩, h3, h⟩ := bind_some h
  obtain ⟨tl, pl, kl⟩ := hl
  obtain ⟨tu, pu, ku⟩ := hu
  simp only at h
  split at h
  · cases h
    refine RL.of (pe_slice sl_list (pwE a) pl pu) fun hs ps σ H R Q q => ha _ _ _ h1 hs ps σ H R _ fun v H2 s2 R2 d2 => kl _ _ _ h2 hs ps σ H2 R2 _ fun H3 s3 R3 => ku _ _ _ h3 hs ps σ H3 R3 _ fun H4 s4 R4 => ?_
    obtain ⟨p, vs, rfl, hp, da⟩ := dp_list d2
    have sb := (s3.trans s4).hd0 R2.hr.sub
    refine ⟨p, vs, rfl, sqL_mono hid_sub (sqL_mono sb hp), fun t ht => ?_⟩
    have da4 := da.up sb
    obtain ⟨k1, k2, k3, k4, k5⟩ := lay_list (vs := cutV vs y z) (ds := cutD _ y z) ((s2.trans s3).trans s4) R4 ht (by
      unfold cutV cutD
      rw [da4.len]
      exact (da4.dr _).tk _)
    exact q t _ _ k1 k2 k3 k4 k5
  · cases h
end
end DL


set_option Elab.async false
set_option linter.all false
set_option maxRecDepth 100000
set_option maxHeartbeats 4000000
namespace DL
open PySem PySem.Spec L2
open PyProof.Rows hiding St

/-! ### built-ins -/
def RCD (K : PySem.W.Frag) (r : List V → Hp → VK → Prop) (xs : List PyData) (z : PyData) : Prop := ∀ (hs : List Addr) (H : Hp) (vs : List V), (∀ a ∈ hs, H a ≠ none) → DpAll K (hid hs H) vs xs →
  ∀ Q : VK, (∀ u H', Step [] H H' → Dp K (hid hs H') u z → Q u H') → r vs H Q
def fBi (g : List PyData → Option PyData) (a : FA) : FE := fun st => (a st).bind fun p => (datsOf p.1).bind fun ds => (g ds).map fun z => (z, p.2)
section
variable {X : Cx} {K : PySem.W.Frag} {a b e : Expr} {es : List Expr} {p pos : Pos} {fa : FA} {fe : FE} {r : List V → Hp → VK → Prop} {g : List PyData → Option PyData} {x : Str} {nm T : String}
theorem ed_bi {st : Sta} {z : PyData} {c : Cs} {ta : TA} (h : fBi g fa st = some (z, c)) (hr : ∀ xs z, g xs = some z → RCD K r xs z) (ha : ∀ st d c, fa st = some (d, c) → EDA K ta st d c) : ED K (tCB r ta) st z c := by
  obtain ⟨⟨xs, c1⟩, h1, h⟩ := bind_some h
  obtain ⟨ds, h2, h⟩ := bind_some h
  obtain ⟨y, h3, e⟩ := map_some h
  cases e
  refine fun hs ps σ H R Q q => ha _ _ _ h1 hs ps σ H R _ fun vs H2 s2 R2 p2 => ?_
  rw [datsOf_dat (show datsOf xs = some ds from h2)] at p2
  exact hr _ _ h3 hs H2 vs R2.hr.trk (paired_dat p2) Q fun u H3 s3 d3 => q u H3 (s2.trans (s3.mono (by simp))) (R2.step s3) d3
theorem re_bi (hc : CallR X (.builtin nm) r) (hr : ∀ xs z, g xs = some z → RCD X.K r xs z) (hg : Gl X x) (hm : X.mg x = none) (hv : bootBuiltins x = some (.builtin nm)) (ha : RA X (e :: es) fa) (hn : x ≠ "__name__" := by decide) (hdb : (x == ("__debug__" : Str)) = false := by decide)
    (he : starEach (e :: es) X.env = (false, eval e X.env) :: starEach es X.env := by with_reducible first | exact sn_name | exact sn_const | exact sn_tup | exact sn_list | exact sn_bin | exact sn_un | exact sn_bool | exact sn_cmp | exact sn_call | exact sn_sub | exact sn_if | exact sn_attr | exact sn_lc) (hpl : (backTo pos (starEach es X.env)).any (·.1) = false := by rfl) : RE X (.Call (.Name x p) (e :: es) [] pos) (fBi g fa) := .mk fun st d c h =>
  RE.of (pe_callB hc hg hm hv (pwA (e :: es)) hn hdb he hpl) (ed_bi h hr ha)
theorem re_biT (hc : CallR X (.type T) r) (hr : ∀ xs z, g xs = some z → RCD X.K r xs z) (hg : Gl X x) (hm : X.mg x = none) (hv : bootBuiltins x = some (.type T)) (ha : RA X (e :: es) fa) (hn : x ≠ "__name__" := by decide) (hdb : (x == ("__debug__" : Str)) = false := by decide)
    (he : starEach (e :: es) X.env = (false, eval e X.env) :: starEach es X.env := by with_reducible first | exact sn_name | exact sn_const | exact sn_tup | exact sn_list | exact sn_bin | exact sn_un | exact sn_bool | exact sn_cmp | exact sn_call | exact sn_sub | exact sn_if | exact sn_attr | exact sn_lc) (hpl : (backTo pos (starEach es X.env)).any (·.1) = false := by rfl) : RE X (.Call (.Name x p) (e :: es) [] pos) (fBi g fa) := .mk fun st d c h =>
  RE.of (pe_callTy hc hg hm hv (pwA (e :: es)) hn hdb he hpl) (ed_bi h hr ha)
theorem dpa1 {H : Hp} {vs : List V} {d : PyData} (h : DpAll K H vs [d]) : ∃ v, vs = [v] ∧ Dp K H v d := by
  cases h with
  | cons a t => cases t; exact ⟨_, rfl, a⟩
theorem dpa2 {H : Hp} {vs : List V} {d d' : PyData} (h : DpAll K H vs [d, d']) : ∃ v w, vs = [v, w] ∧ Dp K H v d ∧ Dp K H w d' := by
  cases h with
  | cons a t =>
    obtain ⟨w, rfl, h2⟩ := dpa1 t
    exact ⟨_, _, rfl, a, h2⟩
/-! len -/
def gLen : List PyData → Option PyData
  | [.list xs] => some (.int xs.length)
  | [.tuple xs] => some (.int xs.length)
  | _ => none
theorem re_len (hg : Gl X "len") (hm : X.mg "len" = none) (ha : RA X [a] fa) (he : starEach [a] X.env = (false, eval a X.env) :: starEach [] X.env := by with_reducible first | exact sn_name | exact sn_const | exact sn_tup | exact sn_list | exact sn_bin | exact sn_un | exact sn_bool | exact sn_cmp | exact sn_call | exact sn_sub | exact sn_if | exact sn_attr | exact sn_lc) : RE X (.Call (.Name "len" p) [a] [] pos) (fBi gLen fa) :=
  re_bi call_len (fun xs z h => by
    unfold gLen at h
    split at h <;> cases h
    · intro hs H vs _ d Q q
      obtain ⟨v, rfl, d1⟩ := dpa1 d
      obtain ⟨p, ws, rfl, hp, da⟩ := dp_list d1
      exact ⟨_, ws.length, rfl, .inl ⟨ws, sqL_mono hid_sub hp, rfl⟩, q _ H (Step.refl H) (by rw [da.len]; exact .int _)⟩
    · intro hs H vs _ d Q q
      obtain ⟨v, rfl, d1⟩ := dpa1 d
      obtain ⟨p, ws, rfl, hp, da⟩ := dp_tuple d1
      exact ⟨_, ws.length, rfl, .inr ⟨ws, sqT_mono hid_sub hp, rfl⟩, q _ H (Step.refl H) (by rw [da.len]; exact .int _)⟩) hg hm PySem.boot_len ha (he := he)
/-! all, any, sum -/
def boolsOf : List PyData → Option (List Bool)
  | [] => some []
  | .bool b :: r => (boolsOf r).map (b :: ·)
  | _ => none
theorem bools_dp {H : Hp} : ∀ {ds : List PyData} {bs : List Bool} {vs : List V}, boolsOf ds = some bs → DpAll K H vs ds → vs = bs.map V.bl
  | [], bs, vs, h, d => by
    cases d
    have h' := Option.some.inj h
    subst h'; rfl
  | d0 :: r, bs, vs, h, d => by
    cases d with
    | cons a t =>
      cases d0 <;> first | (exfalso; cases h; done) | skip
      rename_i b0
      obtain ⟨l, h1, rfl⟩ := map_some (show (boolsOf r).map (b0 :: ·) = some bs from h)
      rw [bools_dp h1 t, dp_bool a]; rfl
def intsOf : List PyData → Option (List Int)
  | [] => some []
  | .int b :: r => (intsOf r).map (b :: ·)
  | _ => none
theorem ints_dp {H : Hp} : ∀ {ds : List PyData} {bs : List Int} {vs : List V}, intsOf ds = some bs → DpAll K H vs ds → vs = bs.map V.int
  | [], bs, vs, h, d => by
    cases d
    have h' := Option.some.inj h
    subst h'; rfl
  | d0 :: r, bs, vs, h, d => by
    cases d with
    | cons a t =>
      cases d0 <;> first | (exfalso; cases h; done) | skip
      rename_i b0
      obtain ⟨l, h1, rfl⟩ := map_some (show (intsOf r).map (b0 :: ·) = some bs from h)
      rw [ints_dp h1 t, dp_int a]; rfl
def gAll : List PyData → Option PyData
  | [.list xs] => (boolsOf xs).map fun bs => .bool (bs.all id)
  | _ => none
def gAny : List PyData → Option PyData
  | [.list xs] => (boolsOf xs).map fun bs => .bool (bs.any id)
  | _ => none
theorem re_all (hc : X.calm = true) (hg : Gl X "all") (hm : X.mg "all" = none) (ha : RA X [a] fa) (he : starEach [a] X.env = (false, eval a X.env) :: starEach [] X.env := by with_reducible first | exact sn_name | exact sn_const | exact sn_tup | exact sn_list | exact sn_bin | exact sn_un | exact sn_bool | exact sn_cmp | exact sn_call | exact sn_sub | exact sn_if | exact sn_attr | exact sn_lc) : RE X (.Call (.Name "all" p) [a] [] pos) (fBi gAll fa) :=
  re_bi (cr_all hc) (fun xs z h => by
    unfold gAll at h
    split at h
    · obtain ⟨bs, h1, rfl⟩ := map_some h
      intro hs H vs _ d Q q
      obtain ⟨v, rfl, d1⟩ := dpa1 d
      obtain ⟨p, ws, rfl, hp, da⟩ := dp_list d1
      rw [bools_dp h1 da] at hp
      exact ⟨p, bs, rfl, sqL_mono hid_sub hp, q _ H (Step.refl H) (.bl _)⟩
    · cases h) hg hm (by decide +kernel) ha (he := he)
theorem re_any (hc : X.calm = true) (hg : Gl X "any") (hm : X.mg "any" = none) (ha : RA X [a] fa) (he : starEach [a] X.env = (false, eval a X.env) :: starEach [] X.env := by with_reducible first | exact sn_name | exact sn_const | exact sn_tup | exact sn_list | exact sn_bin | exact sn_un | exact sn_bool | exact sn_cmp | exact sn_call | exact sn_sub | exact sn_if | exact sn_attr | exact sn_lc) : RE X (.Call (.Name "any" p) [a] [] pos) (fBi gAny fa) :=
  re_bi (cr_any hc) (fun xs z h => by
    unfold gAny at h
    split at h
    · obtain ⟨bs, h1, rfl⟩ := map_some h
      intro hs H vs _ d Q q
      obtain ⟨v, rfl, d1⟩ := dpa1 d
      obtain ⟨p, ws, rfl, hp, da⟩ := dp_list d1
      rw [bools_dp h1 da] at hp
      exact ⟨p, bs, rfl, sqL_mono hid_sub hp, q _ H (Step.refl H) (.bl _)⟩
    · cases h) hg hm (by decide +kernel) ha (he := he)
/-! int, abs, max, min -/
def gInt : List PyData → Option PyData
  | [.int i] => some (.int i)
  | [.bool b] => some (.int (if b then 1 else 0))
  | _ => none
def gAbs : List PyData → Option PyData
  | [.int i] => some (.int (if i < 0 then -i else i))
  | _ => none
def gMax : List PyData → Option PyData
  | [.int i, .int j] => some (.int (if j > i then j else i))
  | _ => none
def gMin : List PyData → Option PyData
  | [.int i, .int j] => some (.int (if j < i then j else i))
  | _ => none
theorem re_intc (hg : Gl X "int") (hm : X.mg "int" = none) (ha : RA X [a] fa) (he : starEach [a] X.env = (false, eval a X.env) :: starEach [] X.env := by with_reducible first | exact sn_name | exact sn_const | exact sn_tup | exact sn_list | exact sn_bin | exact sn_un | exact sn_bool | exact sn_cmp | exact sn_call | exact sn_sub | exact sn_if | exact sn_attr | exact sn_lc) : RE X (.Call (.Name "int" p) [a] [] pos) (fBi gInt fa) :=
  re_biT call_int1 (fun xs z h => by
    unfold gInt at h
    split at h <;> cases h
    · intro hs H vs _ d Q q
      obtain ⟨v, rfl, d1⟩ := dpa1 d
      cases dp_int d1
      exact .inl ⟨_, rfl, q _ H (Step.refl H) (.int _)⟩
    · intro hs H vs _ d Q q
      obtain ⟨v, rfl, d1⟩ := dpa1 d
      cases dp_bool d1
      exact .inr ⟨_, rfl, q _ H (Step.refl H) (.int _)⟩) hg hm (by decide +kernel) ha (he := he)
theorem re_abs (hg : Gl X "abs") (hm : X.mg "abs" = none) (ha : RA X [a] fa) (he : starEach [a] X.env = (false, eval a X.env) :: starEach [] X.env := by with_reducible first | exact sn_name | exact sn_const | exact sn_tup | exact sn_list | exact sn_bin | exact sn_un | exact sn_bool | exact sn_cmp | exact sn_call | exact sn_sub | exact sn_if | exact sn_attr | exact sn_lc) : RE X (.Call (.Name "abs" p) [a] [] pos) (fBi gAbs fa) :=
  re_bi call_abs (fun xs z h => by
    unfold gAbs at h
    split at h <;> cases h
    intro hs H vs _ d Q q
    obtain ⟨v, rfl, d1⟩ := dpa1 d
    cases dp_int d1
    exact ⟨_, rfl, q _ H (Step.refl H) (.int _)⟩) hg hm (by decide +kernel) ha (he := he)
theorem re_max (hc : X.calm = true) (hg : Gl X "max") (hm : X.mg "max" = none) (ha : RA X [a, b] fa) (he : starEach [a, b] X.env = (false, eval a X.env) :: starEach [b] X.env := by with_reducible first | exact sn_name | exact sn_const | exact sn_tup | exact sn_list | exact sn_bin | exact sn_un | exact sn_bool | exact sn_cmp | exact sn_call | exact sn_sub | exact sn_if | exact sn_attr | exact sn_lc) (hpl : (backTo pos (starEach [b] X.env)).any (·.1) = false := by rfl) : RE X (.Call (.Name "max" p) [a, b] [] pos) (fBi gMax fa) :=
  re_bi (call_max2 hc) (fun xs z h => by
    unfold gMax at h
    split at h <;> cases h
    intro hs H vs _ d Q q
    obtain ⟨v, w, rfl, d1, d2⟩ := dpa2 d
    cases dp_int d1
    cases dp_int d2
    exact ⟨_, _, rfl, q _ H (Step.refl H) (.int _)⟩) hg hm (by decide +kernel) ha (he := he) (hpl := hpl)
theorem re_min (hc : X.calm = true) (hg : Gl X "min") (hm : X.mg "min" = none) (ha : RA X [a, b] fa) (he : starEach [a, b] X.env = (false, eval a X.env) :: starEach [b] X.env := by with_reducible first | exact sn_name | exact sn_const | exact sn_tup | exact sn_list | exact sn_bin | exact sn_un | exact sn_bool | exact sn_cmp | exact sn_call | exact sn_sub | exact sn_if | exact sn_attr | exact sn_lc) (hpl : (backTo pos (starEach [b] X.env)).any (·.1) = false := by rfl) : RE X (.Call (.Name "min" p) [a, b] [] pos) (fBi gMin fa) :=
  re_bi (call_min2 hc) (fun xs z h => by
    unfold gMin at h
    split at h <;> cases h
    intro hs H vs _ d Q q
    obtain ⟨v, w, rfl, d1, d2⟩ := dpa2 d
    cases dp_int d1
    cases dp_int d2
    exact ⟨_, _, rfl, q _ H (Step.refl H) (.int _)⟩) hg hm (by decide +kernel) ha (he := he) (hpl := hpl)
/-! gcd -/
def gGcd : List PyData → Option PyData
  | [.int i, .int j] => some (.int ((Nat.gcd i.natAbs j.natAbs : Nat) : Int))
  | _ => none
theorem re_gcd (hg : Gl X x) (hm : X.mg x = some (.builtin "math.gcd")) (ha : RA X [a, b] fa) (hdb : (x == ("__debug__" : Str)) = false := by decide) (he : starEach [a, b] X.env = (false, eval a X.env) :: starEach [b] X.env := by with_reducible first | exact sn_name | exact sn_const | exact sn_tup | exact sn_list | exact sn_bin | exact sn_un | exact sn_bool | exact sn_cmp | exact sn_call | exact sn_sub | exact sn_if | exact sn_attr | exact sn_lc) (hpl : (backTo pos (starEach [b] X.env)).any (·.1) = false := by rfl) : RE X (.Call (.Name x p) [a, b] [] pos) (fBi gGcd fa) := .mk fun st d c h =>
  RE.of (pe_callBfun cr_gcd hg hm (pwA [a, b]) hdb he hpl) (ed_bi h (fun xs z h => by
    unfold gGcd at h
    split at h <;> cases h
    intro hs H vs _ d Q q
    obtain ⟨v, w, rfl, d1, d2⟩ := dpa2 d
    cases dp_int d1
    cases dp_int d2
    exact ⟨_, _, rfl, q _ H (Step.refl H) (.int _)⟩) ha)
/-! divmod -/
def divmodOk (i j : Int) : Bool := decide (0 < j) && !Builtin.divisionGoesByPylong i j
def gDivmod : List PyData → Option PyData
  | [.int i, .int j] => if divmodOk i j = true then some (.tuple [.int (i / j), .int (i % j)]) else none
  | _ => none
theorem re_divmod (hg : Gl X "divmod") (hm : X.mg "divmod" = none) (ha : RA X [a, b] fa) (he : starEach [a, b] X.env = (false, eval a X.env) :: starEach [b] X.env := by with_reducible first | exact sn_name | exact sn_const | exact sn_tup | exact sn_list | exact sn_bin | exact sn_un | exact sn_bool | exact sn_cmp | exact sn_call | exact sn_sub | exact sn_if | exact sn_attr | exact sn_lc) (hpl : (backTo pos (starEach [b] X.env)).any (·.1) = false := by rfl) : RE X (.Call (.Name "divmod" p) [a, b] [] pos) (fBi gDivmod fa) :=
  re_bi call_divmodW (fun xs z h => by
    unfold gDivmod at h
    split at h
    · split at h <;> cases h
      rename_i hok
      intro hs H vs ht d Q q
      obtain ⟨v, w, rfl, d1, d2⟩ := dpa2 d
      cases dp_int d1
      cases dp_int d2
      unfold divmodOk at hok
      rw [Bool.and_eq_true] at hok
      refine ⟨_, _, rfl, ⟨of_decide_eq_true hok.1, by simpa using hok.2⟩, fun t ht' => ?_⟩
      have hph : t ∉ hs := fun m => ht t m ht'
      exact q _ _ (Step.new ht') (.tup (.inl (.inl (by rw [hid_out hph]; exact upd_same))) (.cons (.int _) (.cons (.int _) .nil)))
    · cases h) hg hm (by decide +kernel) ha (he := he) (hpl := hpl)
/-! tuple(..), list(..) -/
def gTuple : List PyData → Option PyData
  | [.list xs] => some (.tuple xs)
  | [.tuple xs] => some (.tuple xs)
  | _ => none
theorem re_tuple (hg : Gl X "tuple") (hm : X.mg "tuple" = none) (ha : RA X [a] fa) (he : starEach [a] X.env = (false, eval a X.env) :: starEach [] X.env := by with_reducible first | exact sn_name | exact sn_const | exact sn_tup | exact sn_list | exact sn_bin | exact sn_un | exact sn_bool | exact sn_cmp | exact sn_call | exact sn_sub | exact sn_if | exact sn_attr | exact sn_lc) : RE X (.Call (.Name "tuple" p) [a] [] pos) (fBi gTuple fa) :=
  re_biT call_tuple_of (fun xs z h => by
    unfold gTuple at h
    split at h <;> cases h
    · intro hs H vs ht d Q q
      obtain ⟨v, rfl, d1⟩ := dpa1 d
      obtain ⟨p, ws, rfl, hp, da⟩ := dp_list d1
      refine ⟨p, ws, rfl, .inl ⟨sqL_mono hid_sub hp, fun t ht' => ?_⟩⟩
      have hph : t ∉ hs := fun m => ht t m ht'
      have s3 : Step [] H (upd H t (.tup ws)) := Step.new ht'
      exact q _ _ s3 (.tup (.inl (.inl (by rw [hid_out hph]; exact upd_same))) (da.up (s3.hd0 (by simp))))
    · intro hs H vs _ d Q q
      obtain ⟨v, rfl, d1⟩ := dpa1 d
      obtain ⟨p, ws, rfl, hp, da⟩ := dp_tuple d1
      exact ⟨p, ws, rfl, .inr ⟨sqT_mono hid_sub hp, q _ H (Step.refl H) (.tup hp da)⟩⟩) hg hm (by decide +kernel) ha (he := he)
def fList (a : FE) : FL := fun st => (a st).bind fun p => match p.1 with
  | .list xs => some (xs, p.2)
  | .tuple xs => some (xs, p.2)
  | _ => none
theorem rl_list (hg : Gl X "list") (hm : X.mg "list" = none) (ha : RE X a fe) (he : starEach [a] X.env = (false, eval a X.env) :: starEach [] X.env := by with_reducible first | exact sn_name | exact sn_const | exact sn_tup | exact sn_list | exact sn_bin | exact sn_un | exact sn_bool | exact sn_cmp | exact sn_call | exact sn_sub | exact sn_if | exact sn_attr | exact sn_lc) : RL X (.Call (.Name "list" p) [a] [] pos) (fList fe) := .mk fun st d c h => by
  obtain ⟨⟨y, c1⟩, h1, h⟩ := bind_some h
  refine RL.of (pe_callTy call_list_of hg hm (by decide +kernel) (pa_cons (pwE a) pa_nil he) (he := he)) fun hs ps σ H R Q q => ha _ _ _ h1 hs ps σ H R _ fun v H2 s2 R2 d2 => ?_
  simp only at h
  split at h
  · cases h
    obtain ⟨p, ws, rfl, hp, da⟩ := dp_list d2
    refine ⟨p, ws, rfl, .inl (sqL_mono hid_sub hp), fun t ht => ?_⟩
    obtain ⟨k1, k2, k3, k4, k5⟩ := lay_list s2 R2 ht da
    exact q t _ _ k1 k2 k3 k4 k5
  · cases h
    obtain ⟨p, ws, rfl, hp, da⟩ := dp_tuple d2
    refine ⟨p, ws, rfl, .inr (sqT_mono hid_sub hp), fun t ht => ?_⟩
    obtain ⟨k1, k2, k3, k4, k5⟩ := lay_list s2 R2 ht da
    exact q t _ _ k1 k2 k3 k4 k5
  · cases h
/-! type(x) is T, isinstance(x, T) -/
def tyOf : PyData → String
  | .none => "NoneType"
  | .bool _ => "bool"
  | .int _ => "int"
  | .str _ => "str"
  | .list _ => "list"
  | .tuple _ => "tuple"
  | .dict _ => "dict"
theorem rl_typeD {pins : List (Addr × Obj)} {s : Shared} {σ : St} {H : Hp} {v : V} {u : Value} {d : PyData} {Q : VK} (I : L2.Inv X pins σ H s) (r : RelV v u) (hd : Dp X.K H v d) (q : Q (.ty (tyOf d)) H) :
    wpAny (model X.prog X.w) X.A (call (.type "type") [u]) (EP X pins σ Q) X.xe s := by
  have fin : EP X pins σ Q (.type (tyOf d)) s := ⟨.ty (tyOf d), H, I, rfl, q⟩
  cases hd with
  | non => cases (show u = Value.none from r); exact call_type_of (Tx := "NoneType") rfl (by decide +kernel) fin
  | bl y => cases (show u = Value.bool y from r); exact call_type_of (Tx := "bool") rfl (by decide +kernel) fin
  | int i => obtain ⟨t, rfl⟩ := (show ∃ t, u = Value.int i t from r); exact call_type_of (Tx := "int") rfl (by decide +kernel) fin
  | str y => obtain ⟨t, rfl⟩ := (show ∃ t, u = Value.str y t from r); exact call_type_of (Tx := "str") rfl (by decide +kernel) fin
  | lst a b =>
    cases (show u = Value.ref _ from r)
    obtain ⟨its, rv, ⟨o, n, e, c, _, _⟩, _⟩ := I.list a
    exact call_type_of (Tx := "list") ⟨o, e, c⟩ (by decide +kernel) fin
  | tup a b =>
    cases (show u = Value.ref _ from r)
    obtain ⟨its, rv, ⟨o, e, c, _⟩, _⟩ := I.tuple a
    exact call_type_of (Tx := "tuple") ⟨o, e, c⟩ (by decide +kernel) fin
def gTyIs (T : String) (x : PyData) : Option PyData := some (.bool (decide (tyOf x = T)))
def rTyD (K : PySem.W.Frag) : List V → Hp → VK → Prop := fun xs H Q => ∃ v d, xs = [v] ∧ Dp K H v d ∧ Q (.ty (tyOf d)) H
theorem call_typeD : CallR X (.type "type") (rTyD X.K) := by
  intro pins s σ H xs us Q I r h
  obtain ⟨v, d, rfl, hd, q⟩ := h
  obtain ⟨u, rfl, rx⟩ := vals1 r
  exact rl_typeD I rx hd q
theorem dp_ty {H : Hp} {v : V} {d : PyData} (h : Dp K H v d) {d' : PyData} (h' : Dp K H v d') : True := trivial
theorem re_tyIs {y : Str} {T : String} {p1 p2 p3 : Pos} (hg : Gl X "type") (hm : X.mg "type" = none) (hgT : Gl X y) (hmT : X.mg y = none) (hvT : bootBuiltins y = some (.type T)) (ha : RE X a fe) (he : starEach [a] X.env = (false, eval a X.env) :: starEach [] X.env := by with_reducible first | exact sn_name | exact sn_const | exact sn_tup | exact sn_list | exact sn_bin | exact sn_un | exact sn_bool | exact sn_cmp | exact sn_call | exact sn_sub | exact sn_if | exact sn_attr | exact sn_lc)
    (hnT : y ≠ "__name__" := by decide) (hdT : (y == ("__debug__" : Str)) = false := by decide) :
    RE X (.Compare (.Call (.Name "type" p1) [a] [] p2) [.Is] [.Name y p3] pos) (fUn (gTyIs T) fe) := .mk fun st d c h => by
  obtain ⟨⟨z, c1⟩, h1, h⟩ := bind_some h
  obtain ⟨w, h2, e⟩ := map_some h
  cases e
  cases h2
  refine RE.of (pe_cmpR op_isTyB (pe_callTy call_typeD hg hm (by decide +kernel) (pa_cons (pwE a) pa_nil he) (he := he)) (pe_bltn (v := .ty T) hgT hmT hvT rfl hnT hdT) (nomark _)) fun hs ps σ H R Q q => ha _ _ _ h1 hs ps σ H R _ fun v H2 s2 R2 d2 => ?_
  exact ⟨v, z, rfl, d2.up hid_sub, _, _, rfl, rfl, q _ H2 s2 R2 (.bl _)⟩
def gIsi (T : String) (x : PyData) : Option PyData := (kitB (tyOf x) T).map .bool
theorem dp_tyX {H : Hp} {v : V} {d : PyData} (h : Dp K H v d) : TyX K H v (.type (tyOf d)) := by
  cases h with
  | non => exact .base .non
  | bl y => exact .base (.bl y)
  | int i => exact .base (.int i)
  | str y => exact .base (.str y)
  | lst a b =>
    rcases a with (a | ⟨o, a⟩) | ⟨o, its, n, h1, h2, _⟩
    · exact .base (.lst a)
    · exact .base (.frz a)
    · exact .kList h1 h2
  | tup a b =>
    rcases a with (a | ⟨o, a⟩) | ⟨o, its, n, h1, h2, _⟩
    · exact .base (.tup a)
    · exact .fTuple a
    · exact .kTuple h1 h2
theorem re_isi {y : Str} {T : String} {p1 p3 : Pos} (hg : Gl X "isinstance") (hm : X.mg "isinstance" = none) (hgT : Gl X y) (hmT : X.mg y = none) (hvT : bootBuiltins y = some (.type T)) (ha : RE X a fe)
    (he : starEach [a, .Name y p3] X.env = (false, eval a X.env) :: starEach [.Name y p3] X.env := by with_reducible first | exact sn_name | exact sn_const | exact sn_tup | exact sn_list | exact sn_bin | exact sn_un | exact sn_bool | exact sn_cmp | exact sn_call | exact sn_sub | exact sn_if | exact sn_attr | exact sn_lc) (he2 : starEach [.Name y p3] X.env = (false, eval (.Name y p3) X.env) :: starEach [] X.env := by rfl) (hpl : (backTo pos (starEach [.Name y p3] X.env)).any (·.1) = false := by rfl) (hnT : y ≠ "__name__" := by decide) (hdT : (y == ("__debug__" : Str)) = false := by decide) :
    RE X (.Call (.Name "isinstance" p1) [a, .Name y p3] [] pos) (fUn (gIsi T) fe) := .mk fun st d c h => by
  obtain ⟨⟨z, c1⟩, h1, h⟩ := bind_some h
  obtain ⟨w, h2, e⟩ := map_some h
  cases e
  obtain ⟨b, h3, rfl⟩ := map_some h2
  refine RE.of (pe_callB call_isi hg hm (by decide +kernel) (pa_cons (pwE a) (pa_cons (pe_bltn (v := .ty T) hgT hmT hvT rfl hnT hdT) pa_nil he2) he) (he := he) (hpl := hpl)) fun hs ps σ H R Q q => ha _ _ _ h1 hs ps σ H R _ fun v H2 s2 R2 d2 => ?_
  exact ⟨v, .ty T, _, _, b, rfl, .ty T, dp_tyX (d2.up hid_sub), kit_ty h3, q _ H2 s2 R2 (.bl _)⟩
/-! repr -/
def shownOk (d : PyData) : Bool := d.showable && !d.hasDict && decide (d.shown.length ≤ sizeLine) && decide (d.depth ≤ 60)
def gRepr : List PyData → Option PyData
  | [d] => if shownOk d = true then some (.str d.shown) else none
  | _ => none
def rRepr (K : PySem.W.Frag) : List V → Hp → VK → Prop := fun xs H Q => ∃ v d, xs = [v] ∧ Dp K H v d ∧ shownOk d = true ∧ Q (.str d.shown) H
theorem call_reprD (hgd : X.A.guards = some []) (hu : X.A.units + 64 < cLine) : CallR X (.builtin "repr") (rRepr X.K) := by
  intro pins s σ H xs us Q I r h
  obtain ⟨v, d, rfl, hd, hok, q⟩ := h
  obtain ⟨u, rfl, rx⟩ := vals1 r
  unfold shownOk at hok
  simp only [Bool.and_eq_true, Bool.not_eq_true', decide_eq_true_eq] at hok
  obtain ⟨⟨⟨h1, h2⟩, h3⟩, h4⟩ := hok
  obtain ⟨as, hr⟩ := Dp.reads I d v u hd rx
  cases hd with
  | non => cases (show u = Value.none from rx); exact PySem.P.repr_of_none ⟨.str (PyData.shown .none), H, I.tok _, ⟨_, rfl⟩, q⟩
  | bl y => cases (show u = Value.bool y from rx); exact PySem.P.repr_of_bool ⟨.str (PyData.shown (.bool y)), H, I.tok _, ⟨_, rfl⟩, q⟩
  | int i => obtain ⟨t, rfl⟩ := (show ∃ t, u = Value.int i t from rx); exact PySem.P.repr_of_int (of_decide_eq_true h1) ⟨.str (PyData.shown (.int i)), H, I.tok _, ⟨_, rfl⟩, q⟩
  | str y => obtain ⟨t, rfl⟩ := (show ∃ t, u = Value.str y t from rx); exact PySem.P.repr_of_str ⟨.str (PyData.shown (.str y)), H, I.tok _, ⟨_, rfl⟩, q⟩ h3
  | lst a b =>
    cases (show u = Value.ref _ from rx)
    exact repr_of_reads' hr h1 (PyData.noDict_hsm h2) hgd (by omega) (fun _ _ e => e) (fun h' t tk hk => ⟨.str _, H, I.kept hk, ⟨_, rfl⟩, q⟩) h3
  | tup a b =>
    cases (show u = Value.ref _ from rx)
    exact repr_of_reads' hr h1 (PyData.noDict_hsm h2) hgd (by omega) (fun _ _ e => e) (fun h' t tk hk => ⟨.str _, H, I.kept hk, ⟨_, rfl⟩, q⟩) h3
theorem re_repr (hgd : X.A.guards = some []) (hu : X.A.units + 64 < cLine) (hg : Gl X "repr") (hm : X.mg "repr" = none) (ha : RA X [a] fa) (he : starEach [a] X.env = (false, eval a X.env) :: starEach [] X.env := by with_reducible first | exact sn_name | exact sn_const | exact sn_tup | exact sn_list | exact sn_bin | exact sn_un | exact sn_bool | exact sn_cmp | exact sn_call | exact sn_sub | exact sn_if | exact sn_attr | exact sn_lc) : RE X (.Call (.Name "repr" p) [a] [] pos) (fBi gRepr fa) :=
  re_bi (call_reprD hgd hu) (fun xs z h => by
    unfold gRepr at h
    split at h
    · split at h <;> cases h
      rename_i hok
      intro hs H vs _ d Q q
      obtain ⟨v, rfl, d1⟩ := dpa1 d
      exact ⟨v, _, rfl, d1.up hid_sub, hok, q _ H (Step.refl H) (.str _)⟩
    · cases h) hg hm (by decide +kernel) ha (he := he)
end
end DL


set_option Elab.async false
set_option linter.all false
set_option maxRecDepth 100000
set_option maxHeartbeats 4000000
namespace DL
open PySem PySem.Spec L2
open PyProof.Rows hiding St

/-! ### targets -/
def Only (js : List Nat) (σ σ' : St) : Prop := σ'.length = σ.length ∧ ∀ i, i ∉ js → σ'[i]? = σ[i]?
theorem Only.refl {js : List Nat} (σ : St) : Only js σ σ := ⟨rfl, fun _ _ => rfl⟩
theorem Only.trans {js : List Nat} {a b c : St} (h : Only js a b) (k : Only js b c) : Only js a c := ⟨k.1.trans h.1, fun i n => (k.2 i n).trans (h.2 i n)⟩
theorem Only.mono {js ks : List Nat} {a b : St} (h : Only js a b) (k : ∀ i ∈ js, i ∈ ks) : Only ks a b := ⟨h.1, fun i n => h.2 i fun m => n (k i m)⟩
abbrev FG := Sta → PyData → Option Sta
/-- a target that stores into slots js -/
def EG (K : PySem.W.Frag) (t : TG) (js : List Nat) (g : FG) : Prop := ∀ (hs ps : List Addr) (σ : St) (H : Hp) (st st' : Sta) (v : V) (x : PyData), Rel K hs ps σ H st → Dp K (hid hs H) v x → g st x = some st' →
  ∀ Q : St → Hp → Prop, (∀ σ', Rel K hs ps σ' H st' → Only js σ σ' → Q σ' H) → t v σ H Q
structure RG (X : Cx) (tg : Expr) (t : TG) (js : List Nat) (g : FG) : Prop where
  pg : PG X tg t
  eg : EG X.K t js g
def EGs (K : PySem.W.Frag) (t : TGs) (js : List Nat) (g : Sta → List PyData → Option Sta) : Prop := ∀ (hs ps : List Addr) (σ : St) (H : Hp) (st st' : Sta) (vs : List V) (xs : List PyData), Rel K hs ps σ H st → DpAll K (hid hs H) vs xs → g st xs = some st' →
  ∀ Q : St → Hp → Prop, (∀ σ', Rel K hs ps σ' H st' → Only js σ σ' → Q σ' H) → t vs σ H Q
structure RGs (X : Cx) (tg : List Expr) (t : TGs) (js : List Nat) (g : Sta → List PyData → Option Sta) : Prop where
  pg : PGs X tg t
  eg : EGs X.K t js g
def setD (st : Sta) (i : Nat) (x : SV) : Sta := ⟨st.ds.set i (some x), st.cs⟩
def aName (i : Nat) : FG := fun st x => some (setD st i (.dat x))
def aNil : Sta → List PyData → Option Sta
  | st, [] => some st
  | _, _ => none
def aCons (g : FG) (r : Sta → List PyData → Option Sta) : Sta → List PyData → Option Sta
  | st, x :: xs => (g st x).bind fun st1 => r st1 xs
  | _, [] => none
def aTup (n : Nat) (r : Sta → List PyData → Option Sta) : FG
  | st, .tuple xs => if xs.length = n then r st xs else none
  | _, _ => none
section
variable {K : PySem.W.Frag} {hs ps : List Addr} {σ : St} {H : Hp} {st : Sta}
theorem Rel.set (R : Rel K hs ps σ H st) (i : Nat) {v : V} {x : SV} (h : RelS K hs ps H v x) : Rel K hs ps (σ.set i (some v)) H (setD st i x) := by
  refine ⟨R.hr, by unfold setD; simp [R.len], fun j y e => ?_⟩
  unfold setD at e
  by_cases hj : i = j
  · subst hj
    have hl : i < st.ds.length := by
      by_cases hl : i < st.ds.length
      · exact hl
      · rw [List.getElem?_eq_none (by simpa using hl)] at e; cases e
    rw [List.getElem?_set_self hl] at e
    cases e
    exact ⟨v, by rw [List.getElem?_set_self (by rw [R.len]; exact hl)], h⟩
  · rw [List.getElem?_set_ne hj] at e
    obtain ⟨w, h1, h2⟩ := R.slot j y e
    exact ⟨w, by rw [List.getElem?_set_ne hj]; exact h1, h2⟩
theorem only_set (i : Nat) (v : V) {js : List Nat} (h : i ∈ js) : Only js σ (σ.set i (some v)) := ⟨by simp, fun j n => by
  rw [List.getElem?_set_ne (fun e : i = j => n (e ▸ h))]⟩
end
section
variable {X : Cx} {e : Expr} {es : List Expr} {pos : Pos}
theorem rg_name {i : Nat} {x : Str} (hN : X.N.Nodup) (hi : X.N[i]? = some x) (hx : Loc X.env.scope x) (hf : X.fn x = true ∨ X.env.scope.names.lookup x = some .local := by first | exact .inl rfl | exact .inr rfl | assumption) : RG X (.Name x pos) (gName i) [i] (aName i) :=
  ⟨pg_name hN hi hx hf, fun hs ps σ H st st' v x R d e Q q => by
    cases e
    exact q _ (R.set i (x := .dat x) d) (only_set i v (by simp))⟩
theorem rgs_nil : RGs X [] gNil [] aNil := ⟨pgs_nil, fun hs ps σ H st st' vs xs R d e Q q => by
  cases xs with
  | nil =>
    cases d
    cases e
    exact ⟨rfl, q _ R (Only.refl σ)⟩
  | cons _ _ => cases e⟩
theorem rgs_cons {t : TG} {u : TGs} {js ks : List Nat} {g : FG} {r : Sta → List PyData → Option Sta} (h1 : RG X e t js g) (h2 : RGs X es u ks r) (hs : (assignEach (e :: es) X.env).map (·.2) = assign e X.env :: (assignEach es X.env).map (·.2) := by rfl) : RGs X (e :: es) (gCons t u) (js ++ ks) (aCons g r) :=
  ⟨pgs_cons h1.pg h2.pg hs, fun hs ps σ H st st' vs xs R d e Q q => by
    cases xs with
    | nil => cases e
    | cons x xs =>
      cases d with
      | cons d1 d2 =>
        obtain ⟨st1, e1, e2⟩ := bind_some (show (g st x).bind (fun st1 => r st1 xs) = some st' from e)
        exact ⟨_, _, rfl, h1.eg hs ps σ H st st1 _ x R d1 e1 _ fun σ1 R1 o1 => h2.eg hs ps σ1 H st1 st' _ xs R1 d2 e2 _ fun σ2 R2 o2 => q σ2 R2 ((o1.mono (by simp; intro i h; exact .inl h)).trans (o2.mono (by simp; intro i h; exact .inr h)))⟩⟩
theorem rg_tup {k n : Nat} {t : TGs} {js : List Nat} {r : Sta → List PyData → Option Sta} (hc : X.calm = true) (h : RGs X es t js r) (hn : (assignEach es X.env).length = n := by rfl) (hst : (assignEach es X.env).findIdx? (·.1) = none := by rfl) : RG X (.Tuple es k pos) (gTup X.K n t) js (aTup n r) :=
  ⟨pg_tup hc h.pg hn hst, fun hs ps σ H st st' v x R d e Q q => by
    unfold aTup at e
    split at e
    · split at e
      · rename_i hl
        obtain ⟨p, ws, rfl, hp, da⟩ := dp_tuple d
        exact ⟨p, ws, rfl, sqT_mono hid_sub hp, by rw [da.len]; exact hl, h.eg hs ps σ H _ st' ws _ R da e Q q⟩
      · cases e
    · cases e⟩
end

/-! ### what is walked -/
/-- the items xs, at each turn -/
def YD (K : PySem.W.Frag) (hs : List Addr) (H2 : Hp) (xs : List PyData) : Nat → Hp → V → Hp → Prop := fun i H3 x H' => Step [] H3 H' ∧ ∃ d, xs[i]? = some d ∧ ∀ hs' : List Addr, (∀ a ∈ hs', a ∉ hs → H2 a = none) → (∀ a ∈ hs', H3 a ≠ none) → Dp K (hid hs' H') x d
def GD (hs : List Addr) (H2 : Hp) : Hp → Prop := fun H3 => ∀ a o, a ∉ hs → H2 a = some o → H3 a = some o
def EDI (K : PySem.W.Frag) (ti : TI) (st : Sta) (xs : List PyData) (cs' : Cs) : Prop :=
  ∀ hs ps σ H, Rel K hs ps σ H st → ∀ R : It → Hp → Prop, (∀ J H2, Step ps H H2 → Rel K hs ps σ H2 ⟨st.ds, cs'⟩ → Walk J xs.length (GD hs H2) (YD K hs H2 xs) → R J H2) → ti σ H R
structure RI (X : Cx) (tg iter : Expr) (f : FL) : Prop where
  h : ∀ st xs c, f st = some (xs, c) → EDI X.K (wI X tg iter) st xs c
instance (X : Cx) (tg iter : Expr) (f : FL) : CoeFun (RI X tg iter f) (fun _ => ∀ st xs c, f st = some (xs, c) → EDI X.K (wI X tg iter) st xs c) := ⟨fun r => r.h⟩
section
variable {X : Cx} {tg e a b : Expr} {st : Sta} {c : Cs} {fe : FE} {fl : FL} {fa : FA} {p pos : Pos}
theorem RI.of {t : TI} {xs : List PyData} (p : PI X tg e t) (k : EDI X.K t st xs c) : EDI X.K (wI X tg e) st xs c := fun hs ps σ H R Q q pins s I => p.run pins s σ H Q I (k hs ps σ H R Q q)
theorem GD.sub {hs hs' : List Addr} {H2 H3 : Hp} (g : GD hs H2 H3) (h : ∀ a ∈ hs', a ∉ hs → H2 a = none) : Sub (hid hs H2) (hid hs' H3) := fun a o e => by
  obtain ⟨n, q⟩ := hid_some e
  rw [hid_out fun m => by rw [h a m n] at q; cases q]
  exact g a o n q
theorem sqL_gd {K : PySem.W.Frag} {hs : List Addr} {H2 H3 : Hp} {p : Addr} {xs : List V} (g : GD hs H2 H3) (h : SqL K (hid hs H2) p xs) : SqL K H3 p xs := sqL_mono hid_sub (sqL_mono (g.sub (hs' := hs) fun _ m n => absurd m n) h)
theorem sqT_gd {K : PySem.W.Frag} {hs : List Addr} {H2 H3 : Hp} {p : Addr} {xs : List V} (g : GD hs H2 H3) (h : SqT K (hid hs H2) p xs) : SqT K H3 p xs := sqT_mono hid_sub (sqT_mono (g.sub (hs' := hs) fun _ m n => absurd m n) h)
theorem walk_dL {K : PySem.W.Frag} {hs : List Addr} {H2 : Hp} {p : Addr} {ws : List V} {ds : List PyData} (hp : SqL K (hid hs H2) p ws) (da : DpAll K (hid hs H2) ws ds) : Walk (Itl K p) ds.length (GD hs H2) (YD K hs H2 ds) := by
  rw [← da.len]
  refine (walk_list (K := K) (a := p) (xs := ws)).mono (fun H3 g => sqL_gd g hp) fun i H3 x H' _ g y => ?_
  obtain ⟨rfl, y⟩ := y
  obtain ⟨d, h1, h2⟩ := da.getV y
  exact ⟨Step.refl _, d, h1, fun hs' h3 _ => h2.up (g.sub h3)⟩
theorem walk_dT {K : PySem.W.Frag} {hs : List Addr} {H2 : Hp} {p : Addr} {ws : List V} {ds : List PyData} (hp : SqT K (hid hs H2) p ws) (da : DpAll K (hid hs H2) ws ds) : Walk (Itt K p) ds.length (GD hs H2) (YD K hs H2 ds) := by
  rw [← da.len]
  refine (walk_tup (K := K) (a := p) (xs := ws)).mono (fun H3 g => sqT_gd g hp) fun i H3 x H' _ g y => ?_
  obtain ⟨rfl, y⟩ := y
  obtain ⟨d, h1, h2⟩ := da.getV y
  exact ⟨Step.refl _, d, h1, fun hs' h3 _ => h2.up (g.sub h3)⟩
/-- over a list; over a tuple -/
def fItL (a : FE) : FL := fun st => (a st).bind fun q => match q.1 with
  | .list xs => some (xs, q.2)
  | _ => none
def fItT (a : FE) : FL := fun st => (a st).bind fun q => match q.1 with
  | .tuple xs => some (xs, q.2)
  | _ => none
theorem ri_list (ha : RE X a fe) : RI X tg a (fItL fe) := .mk fun st xs c h => by
  obtain ⟨⟨y, c1⟩, h1, h⟩ := bind_some h
  simp only at h
  split at h <;> cases h
  exact RI.of (pi_list (pwE a)) fun hs ps σ H R Q q => ha _ _ _ h1 hs ps σ H R _ fun v H2 s2 R2 d2 => by
    obtain ⟨p, ws, rfl, hp, da⟩ := dp_list d2
    exact ⟨p, rfl, ⟨ws, sqL_mono hid_sub hp⟩, q _ H2 s2 R2 (walk_dL hp da)⟩
theorem ri_tup (ha : RE X a fe) : RI X tg a (fItT fe) := .mk fun st xs c h => by
  obtain ⟨⟨y, c1⟩, h1, h⟩ := bind_some h
  simp only at h
  split at h <;> cases h
  exact RI.of (pi_tup (pwE a)) fun hs ps σ H R Q q => ha _ _ _ h1 hs ps σ H R _ fun v H2 s2 R2 d2 => by
    obtain ⟨p, ws, rfl, hp, da⟩ := dp_tuple d2
    exact ⟨p, rfl, ⟨ws, sqT_mono hid_sub hp⟩, q _ H2 s2 R2 (walk_dT hp da)⟩
/-- over either -/
def fIt (a : FE) : FL := fun st => (a st).bind fun q => match q.1 with
  | .list xs => some (xs, q.2)
  | .tuple xs => some (xs, q.2)
  | _ => none
theorem ri_seq (ha : RE X a fe) : RI X tg a (fIt fe) := .mk fun st xs c h => by
  obtain ⟨⟨y, c1⟩, h1, h2⟩ := bind_some h
  cases y with
  | list ys => exact ri_list ha st xs c (by unfold fItL; rw [h1]; exact h2)
  | tuple ys => exact ri_tup ha st xs c (by unfold fItT; rw [h1]; exact h2)
  | _ => cases h2
def rangeD (lo : Int) (n : Nat) : List PyData := (List.range n).map fun i => .int (lo + (i : Nat))
def rngOk (i : Int) : Bool := decide (-(2 ^ 62) ≤ i ∧ i < 2 ^ 62)
theorem walk_dR {K : PySem.W.Frag} {hs : List Addr} {H2 : Hp} {lo : Int} {n : Nat} : Walk (Itr lo n) (rangeD lo n).length (GD hs H2) (YD K hs H2 (rangeD lo n)) := by
  have e : (rangeD lo n).length = n := by simp [rangeD]
  rw [e]
  refine (walk_range (lo := lo) (n := n)).mono (fun _ _ => trivial) fun i H3 x H' hi g y => ?_
  obtain ⟨rfl, rfl⟩ := y
  exact ⟨Step.refl _, .int (lo + i), by simp [rangeD, List.getElem?_map, List.getElem?_range hi], fun _ _ _ => .int _⟩
def fRng1 (a : FA) : FL := fun st => (a st).bind fun q => match q.1 with
  | [.dat (.int j)] => if rngOk j = true then some (rangeD 0 j.toNat, q.2) else none
  | _ => none
theorem ri_range1 (hg : Gl X "range") (hm : X.mg "range" = none) (ha : RA X [a] fa) (hs : starEach [a] X.env = [(false, eval a X.env)] := by rfl) : RI X tg (.Call (.Name "range" p) [a] [] pos) (fRng1 fa) := .mk fun st xs c h => by
  obtain ⟨⟨y, c1⟩, h1, h⟩ := bind_some h
  simp only at h
  split at h
  · split at h <;> cases h
    rename_i hok
    have hk := of_decide_eq_true (show decide _ = true from hok)
    exact RI.of (pi_range1 hg hm (pwA [a]) hs) fun hs ps σ H R Q q => ha _ _ _ h1 hs ps σ H R _ fun vs H2 s2 R2 p2 => by
      obtain ⟨v, rfl, d⟩ := dpa1 (paired_dat (ds := [_]) p2)
      cases dp_int d
      exact ⟨_, rfl, hk.1, hk.2, q _ H2 s2 R2 walk_dR⟩
  · cases h
def fRng2 (a : FA) : FL := fun st => (a st).bind fun q => match q.1 with
  | [.dat (.int i), .dat (.int j)] => if rngOk i = true ∧ rngOk j = true then some (rangeD i (j - i).toNat, q.2) else none
  | _ => none
theorem ri_range2 (hg : Gl X "range") (hm : X.mg "range" = none) (ha : RA X [a, b] fa) (hs : starEach [a, b] X.env = [(false, eval a X.env), (false, eval b X.env)] := by rfl) (hs2 : starEach [b] X.env = [(false, eval b X.env)] := by rfl) : RI X tg (.Call (.Name "range" p) [a, b] [] pos) (fRng2 fa) := .mk fun st xs c h => by
  obtain ⟨⟨y, c1⟩, h1, h⟩ := bind_some h
  simp only at h
  split at h
  · split at h <;> cases h
    rename_i hok
    have hk := of_decide_eq_true (show decide _ = true from hok.1)
    have hk2 := of_decide_eq_true (show decide _ = true from hok.2)
    exact RI.of (pi_range2 hg hm (pwA [a, b]) hs hs2) fun hs ps σ H R Q q => ha _ _ _ h1 hs ps σ H R _ fun vs H2 s2 R2 p2 => by
      obtain ⟨v, w, rfl, d, d2⟩ := dpa2 (paired_dat (ds := [_, _]) p2)
      cases dp_int d
      cases dp_int d2
      exact ⟨_, _, rfl, ⟨hk.1, hk.2, hk2.1, hk2.2⟩, q _ H2 s2 R2 walk_dR⟩
  · cases h
end

/-! ### list comprehensions -/
theorem wipe_get {σ : St} {i : Nat} {vs : List Nat} (h : i ∉ vs) : (wipe σ vs)[i]? = σ[i]? := by
  induction vs with
  | nil => rfl
  | cons v vs ih =>
    unfold wipe
    rw [List.getElem?_set_ne (fun e => h (by rw [e]; exact List.mem_cons_self)), ih fun m => h (List.mem_cons_of_mem _ m)]
theorem wipe_in {σ : St} {i : Nat} {vs : List Nat} (h : i ∈ vs) (hl : i < σ.length) : (wipe σ vs)[i]? = some none := by
  induction vs with
  | nil => cases h
  | cons v vs ih =>
    unfold wipe
    by_cases e : v = i
    · subst e
      rw [List.getElem?_set_self (by rw [wipe_length]; exact hl)]
    · rw [List.getElem?_set_ne e]
      exact ih (by rcases List.mem_cons.mp h with q | q; exact absurd q.symm e; exact q)
theorem wipe_only {σ σ2 : St} {vs js : List Nat} (o : Only js (wipe σ vs) σ2) (h : ∀ j ∈ js, j ∈ vs) : wipe σ2 vs = wipe σ vs := by
  apply List.ext_getElem?
  intro i
  have hl : σ2.length = σ.length := by rw [o.1, wipe_length]
  by_cases m : i ∈ vs
  · by_cases hi : i < σ.length
    · rw [wipe_in m hi, wipe_in m (by rw [hl]; exact hi)]
    · rw [List.getElem?_eq_none (by rw [wipe_length, hl]; omega), List.getElem?_eq_none (by rw [wipe_length]; omega)]
  · rw [wipe_get m, o.2 i fun z => m (h i z), wipe_get m]
def wipeD (ds : Slots) : List Nat → Slots
  | [] => ds
  | v :: vs => (wipeD ds vs).set v none
theorem wipeD_length (ds : Slots) : ∀ vs : List Nat, (wipeD ds vs).length = ds.length
  | [] => rfl
  | v :: vs => by unfold wipeD; rw [List.length_set, wipeD_length ds vs]
theorem wipeD_some {ds : Slots} {i : Nat} {x : SV} : ∀ {vs : List Nat}, (wipeD ds vs)[i]? = some (some x) → ds[i]? = some (some x) ∧ i ∉ vs
  | [], h => ⟨h, by simp⟩
  | v :: vs, h => by
    unfold wipeD at h
    by_cases hi : v = i
    · subst hi
      by_cases hv : v < (wipeD ds vs).length
      · rw [List.getElem?_set_self hv] at h; cases h
      · rw [List.getElem?_eq_none (by simpa using hv)] at h; cases h
    · rw [List.getElem?_set_ne hi] at h
      obtain ⟨h1, h2⟩ := wipeD_some h
      exact ⟨h1, by simp only [List.mem_cons, not_or]; exact ⟨fun e => hi e.symm, h2⟩⟩
theorem Rel.wipe {K : PySem.W.Frag} {hs ps : List Addr} {σ : St} {H : Hp} {st : Sta} (R : Rel K hs ps σ H st) (vs : List Nat) : Rel K hs ps (wipe σ vs) H ⟨wipeD st.ds vs, st.cs⟩ :=
  ⟨R.hr, by rw [wipe_length, R.len]; exact (wipeD_length _ _).symm, fun i x e => by
    obtain ⟨h1, h2⟩ := wipeD_some e
    obtain ⟨v, h3, h4⟩ := R.slot i x h1
    exact ⟨v, by rw [wipe_get h2]; exact h3, h4⟩⟩
/-- the turns: what is made so far, the cells -/
def lcGo (g : FG) (t : FT) (el : FE) (ds : Slots) : List PyData → Cs → Option (List PyData × Cs)
  | [], c => some ([], c)
  | x :: xs, c => (g ⟨ds, c⟩ x).bind fun st1 => (t st1).bind fun q => if q.1 = true then (el ⟨st1.ds, q.2⟩).bind fun y => (lcGo g t el ds xs y.2).map fun r => (y.1 :: r.1, r.2) else lcGo g t el ds xs q.2
def fLc (it : FL) (g : FG) (t : FT) (el : FE) (vs : List Nat) : FL := fun st => (it st).bind fun p => if p.1.length ≤ LIM then lcGo g t el (wipeD st.ds vs) p.1 p.2 else none
def fYes : FT := fun st => some (true, st.cs)
def lE (X : Cx) (scope : Scope) (e : Expr) : TE := fun σ H Q => ∀ (s : Shared) (H0 : Hp) (C : Addr) (cl : List (Str × Addr)) (fp : List Addr), wE (X.blk s H0 scope (compEnvC scope cl C X.env) fp) e σ H Q
def lT (X : Cx) (scope : Scope) (ifs : List Expr) : TT := fun σ H Q => ∀ (s : Shared) (H0 : Hp) (C : Addr) (cl : List (Str × Addr)) (fp : List Addr) (pins : List (Addr × Obj)) (s1 : Shared), L2.Inv (X.blk s H0 scope (compEnvC scope cl C X.env) fp) pins σ H s1 →
  wpAny (model X.prog X.w) X.A (forIn ifs true fun c r => if r = true then do let ok ← PySem.isTrue c (compEnvC scope cl C X.env) (eval c (compEnvC scope cl C X.env)); pure (ForInStep.yield ok) else pure (ForInStep.yield r)) (TP (X.blk s H0 scope (compEnvC scope cl C X.env) fp) pins σ Q) (fun _ _ => False) s1
/-- the tests of a clause -/
structure RTs (X : Cx) (ifs : List Expr) (f : FT) : Prop where
  h : ∃ t, PTs X ifs t ∧ ∀ st d c, f st = some (d, c) → EDT X.K t st d c
theorem rts_nil {X : Cx} : RTs X [] fYes := ⟨_, pts_nil, fun st d c h => by
  cases h
  exact fun hs ps σ H R Q q => q H (Step.refl H) R⟩
theorem rts_one {X : Cx} {e : Expr} {f : FT} (h : RT X e f) : RTs X [e] f := ⟨_, pts_one (pwT e), h⟩
section
variable {X : Cx} {elt tg iter : Expr} {ifs : List Expr} {scope : Scope} {own : List (Str × Nat)} {pos : Pos} {g : TG} {it : FL} {fg : FG} {ft : FT} {fe : FE} {js : List Nat}
theorem ptL (ht : ∀ (s : Shared) (H : Hp) (C : Addr) (cl : List (Str × Addr)) (fp : List Addr), RTs (X.blk s H scope (compEnvC scope cl C X.env) fp) ifs ft) : ∀ (s : Shared) (H : Hp) (C : Addr) (cl : List (Str × Addr)) (fp : List Addr), PTs (X.blk s H scope (compEnvC scope cl C X.env) fp) ifs (lT X scope ifs) := fun s H C cl fp => ⟨fun pins s1 σ H1 Q I k => k s H C cl fp pins s1 I⟩
theorem peL : ∀ (s : Shared) (H : Hp) (C : Addr) (cl : List (Str × Addr)) (fp : List Addr), PE (X.blk s H scope (compEnvC scope cl C X.env) fp) elt (lE X scope elt) := fun s H C cl fp => ⟨fun pins s1 σ H1 Q I k => k s H C cl fp pins s1 I⟩
theorem edl_lc (s0 : Shared) (hi : RI X tg iter it)
    (hg : ∀ (s : Shared) (H : Hp) (C : Addr) (cl : List (Str × Addr)) (fp : List Addr), RG (X.blk s H scope (compEnvC scope cl C X.env) fp) tg g js fg) (ht : ∀ (s : Shared) (H : Hp) (C : Addr) (cl : List (Str × Addr)) (fp : List Addr), RTs (X.blk s H scope (compEnvC scope cl C X.env) fp) ifs ft)
    (he : ∀ (s : Shared) (H : Hp) (C : Addr) (cl : List (Str × Addr)) (fp : List Addr), RE (X.blk s H scope (compEnvC scope cl C X.env) fp) elt fe) (hj : ∀ j ∈ js, j ∈ own.map (·.2)) {st : Sta} {d : List PyData} {c : Cs} (h : fLc it fg ft fe (own.map (·.2)) st = some (d, c)) :
    EDL X.K (tLc (wI X tg iter) g (lT X scope ifs) (lE X scope elt) (own.map (·.2))) st d c := by
  obtain ⟨⟨xs, c1⟩, h1, h⟩ := bind_some h
  simp only at h
  split at h
  · rename_i hlim
    have kt : ∀ st d c, ft st = some (d, c) → EDT X.K (lT X scope ifs) st d c := fun st d c e hs ps σ H R Q q s H0 C cl fp pins s1 I => by
      obtain ⟨t, k1, k2⟩ := ht s H0 C cl fp
      exact k1.run pins s1 σ H Q I (k2 _ _ _ e hs ps σ H R Q q)
    have ke : ∀ st d c, fe st = some (d, c) → ED X.K (lE X scope elt) st d c := fun st d c e hs ps σ H R Q q s H0 C cl fp => he s H0 C cl fp _ _ _ e hs ps σ H R Q q
    have kg : EG X.K g js fg := (hg s0 (fun _ => none) 0 [] []).eg
    refine fun hs ps σ H R Q q => hi _ _ _ h1 hs ps σ H R _ fun J H2 s2 R2 W => fun D hD => ?_
    -- one turn after another: what is still to come gives the rest of d
    have sD : Step [] H2 (upd H2 D (.lst [])) := Step.new hD
    have nD : D ∉ hs := fun m => R2.hr.trk D m hD
    have fr : ∀ a ∈ D :: hs, a ∉ hs → H2 a = none := fresh_hid hD
    have hD0 : H D = none := DL.fresh_back s2 R2.hr hD
    refine lc_it W (fun i H3 => ∃ (acc : List V) (d1 d2 : List PyData) (ci : Cs), i ≤ xs.length ∧ H3 D = some (.lst acc) ∧ DpAll X.K (hid (D :: hs) H3) acc d1 ∧ d1.length ≤ i ∧ d = d1 ++ d2 ∧ lcGo fg ft fe (wipeD st.ds (own.map (·.2))) (xs.drop i) ci = some (d2, c) ∧ GD (D :: ps) H2 H3 ∧ Rel X.K (D :: hs) ps σ H3 ⟨st.ds, ci⟩) ?_ ?_ ?_ ?_
    · exact ⟨[], [], d, c1, Nat.zero_le _, upd_same, .nil, Nat.zero_le _, rfl, h, fun a o n e => by rw [upd_ne (fun z => n (by simp [z]))]; exact e, R2.more sD hD (by rw [upd_same]; simp)⟩
    · rintro i H3 _ ⟨acc, d1, d2, ci, _, _, _, _, _, _, g3, R3⟩
      exact fun a o n e => g3 a o (fun z => by
        rcases List.mem_cons.mp z with z | z
        · rw [z, hD] at e; cases e
        · exact n (R2.hr.sub a z)) e
    · rintro i x H3 H4 hi' ⟨acc, d1, d2, ci, hile, e3, da, hl, ed, go, g3, R3⟩ ⟨s4, dx, ex, kx⟩
      have edr : xs.drop i = dx :: xs.drop (i + 1) := by
        have hlt : i < xs.length := hi'
        rw [List.drop_eq_getElem_cons hlt]
        rw [List.getElem?_eq_getElem hlt] at ex
        cases ex; rfl
      rw [edr] at go
      obtain ⟨st1, go1, go⟩ := bind_some go
      obtain ⟨⟨b, c2⟩, go2, go⟩ := bind_some go
      have R4 : Rel X.K (D :: hs) ps σ H4 ⟨st.ds, ci⟩ := R3.step s4
      have dx' : Dp X.K (hid (D :: hs) H4) x dx := kx _ fr R3.hr.trk
      refine kg (D :: hs) ps _ H4 ⟨wipeD st.ds (own.map (·.2)), ci⟩ st1 x dx (R4.wipe _) dx' go1 _ (fun σ2 R5 o5 => ?_)
      refine ⟨wipe_only o5 hj, ?_⟩
      refine kt _ _ _ go2 (D :: hs) ps σ2 H4 R5 _ fun H5 s5 R6 => ?_
      -- the cells may have changed; the new list has not
      have nps : D ∉ ps := fun m => nD (R.hr.sub D m)
      have e5 : H5 D = some (.lst acc) := s5 D _ nps (s4 D _ (by simp) e3)
      have da5 : DpAll X.K (hid (D :: hs) H5) acc d1 := da.up (((s4.mono (qs := ps) (by simp)).trans s5).hd0 R3.hr.sub)
      have g5 : GD (D :: ps) H2 H5 := fun a o n e => s5 a o (fun z => n (List.mem_cons_of_mem _ z)) (s4 a o (by simp) (g3 a o n e))
      have R5' : Rel X.K (D :: hs) ps σ H5 ⟨st.ds, c2⟩ := R4.slots (s5.hd0 R3.hr.sub) R6.hr
      cases b with
      | false =>
        rw [if_neg (by simp)] at go ⊢
        exact ⟨acc, d1, d2, c2, hi', e5, da5, by omega, ed, go, g5, R5'⟩
      | true =>
        rw [if_pos rfl] at go ⊢
        obtain ⟨⟨y, c3⟩, go3, go⟩ := bind_some go
        obtain ⟨⟨r, c4⟩, go4, er⟩ := map_some go
        cases er
        refine ke _ _ _ go3 (D :: hs) ps σ2 H5 R6 _ fun v H6 s6 R7 d7 => ?_
        have e6 : H6 D = some (.lst acc) := s6 D _ nps e5
        have hal : acc.length ≤ i := by rw [da.len]; exact hl
        refine ⟨acc, e6, Nat.lt_of_lt_of_le (Nat.lt_of_le_of_lt hal (Nat.lt_of_lt_of_le hi' hlim)) (by decide), ?_⟩
        have sB : Sub (hid (D :: hs) H6) (hid (D :: hs) (upd H6 D (.lst (acc ++ [v])))) := fun a o e => by
          obtain ⟨n, k⟩ := hid_some e
          rw [hid_out n, upd_ne (fun z => n (by simp [z]))]; exact k
        have R6' : Rel X.K (D :: hs) ps σ H6 ⟨st.ds, c3⟩ := R5'.slots (s6.hd0 R3.hr.sub) R7.hr
        refine ⟨acc ++ [v], d1 ++ [y], r, c3, hi', upd_same, ((da5.up (s6.hd0 R3.hr.sub)).app (.cons d7 .nil)).up sB, by simp; exact hl, by rw [ed]; simp, go4, fun a o n e => ?_, R6'.slots sB ⟨R6'.hr.sub, R6'.hr.nd, R6'.hr.len, fun a m => ?_, fun j p zs k1 k2 => ?_⟩⟩
        · rw [upd_ne (fun z => n (by simp [z]))]
          exact s6 a o (fun z => n (List.mem_cons_of_mem _ z)) (g5 a o n e)
        · by_cases ha : a = D
          · rw [ha, upd_same]; simp
          · rw [upd_ne ha]; exact R6'.hr.trk a m
        · obtain ⟨vs, q1, q2⟩ := R6'.hr.cel j p zs k1 k2
          have hpD : p ≠ D := fun z => nps (z ▸ List.mem_of_getElem? k1)
          exact ⟨vs, by rw [upd_ne hpD]; exact q1, q2.up sB⟩
    · rintro H3 ⟨acc, d1, d2, ci, _, e3, da, _, ed, go, g3, R3⟩
      rw [List.drop_eq_nil_of_le (Nat.le_refl _)] at go
      cases go
      rw [List.append_nil] at ed
      subst ed
      exact q D acc H3 hD0 (fun a o n e => g3 a o (fun z => by
        rcases List.mem_cons.mp z with z | z
        · rw [z, hD0] at e; cases e
        · exact n z) (s2 a o n e)) R3 e3 da
  · cases h
theorem rl_lc (hc : X.calm = true) (hN : X.N.Nodup) (hi : RI X tg iter it) (ok : BlkOk X.N X.env.scope scope own)
    (hg : ∀ (s : Shared) (H : Hp) (C : Addr) (cl : List (Str × Addr)) (fp : List Addr), RG (X.blk s H scope (compEnvC scope cl C X.env) fp) tg g js fg) (ht : ∀ (s : Shared) (H : Hp) (C : Addr) (cl : List (Str × Addr)) (fp : List Addr), RTs (X.blk s H scope (compEnvC scope cl C X.env) fp) ifs ft)
    (he : ∀ (s : Shared) (H : Hp) (C : Addr) (cl : List (Str × Addr)) (fp : List Addr), RE (X.blk s H scope (compEnvC scope cl C X.env) fp) elt fe) (hj : ∀ j ∈ js, j ∈ own.map (·.2)) (hs : ∀ x, foldedSetIterable iter X.env x = pure x := by intro _; rfl) :
    RL X (.ListComp elt [⟨tg, iter, ifs, 0⟩] scope pos) (fLc it fg ft fe (own.map (·.2))) := .mk fun st d c h =>
  fun hs' ps σ H R Q q pins s I => RL.of (pe_lc hc hN (pwI tg iter) ok (fun s H C cl fp => (hg s H C cl fp).pg) (ptL ht) peL hs) (edl_lc s hi hg ht he hj h) hs' ps σ H R Q q pins s I
end
end DL


set_option Elab.async false
set_option linter.all false
set_option maxRecDepth 100000
set_option maxHeartbeats 4000000
namespace DL
open PySem PySem.Spec L2
open PyProof.Rows hiding St

/-! ### statements -/
inductive RV where
  | dat (d : PyData) | new (xs : List PyData)
inductive Out where
  | nx (st : Sta) | rt (r : RV) (cs : Cs) | bk (st : Sta) | ct (st : Sta)
abbrev FS := Sta → Option Out
/-- since the entry of the def -/
structure Lv (hs0 ps0 : List Addr) (H0 : Hp) (hs ps : List Addr) (H : Hp) : Prop where
  pre : ∃ l, ps = ps0 ++ l
  nps : ∀ a ∈ ps, a ∉ ps0 → H0 a = none
  nhs : ∀ a ∈ hs, a ∉ hs0 → H0 a = none
  hss : ∀ a ∈ hs0, a ∈ hs
  stp : Step ps0 H0 H
theorem Lv.step {hs0 ps0 hs ps : List Addr} {H0 H H' : Hp} (L : Lv hs0 ps0 H0 hs ps H) (s : Step ps H H') : Lv hs0 ps0 H0 hs ps H' :=
  ⟨L.pre, L.nps, L.nhs, L.hss, fun a o n e => s a o (fun m => by rw [L.nps a m n] at e; cases e) (L.stp a o n e)⟩
section
variable (K : PySem.W.Frag) (n0 : Nat)
def Post (hs0 ps0 : List Addr) (H0 : Hp) (D : Ends) : Out → Prop
  | .nx st => ∀ hs ps σ H, Lv hs0 ps0 H0 hs ps H → Rel K hs ps σ H st → D.nx σ H
  | .bk st => ∀ hs ps σ H, Lv hs0 ps0 H0 hs ps H → Rel K hs ps σ H st → D.bk σ H
  | .ct st => ∀ hs ps σ H, Lv hs0 ps0 H0 hs ps H → Rel K hs ps σ H st → D.ct σ H
  | .rt (.dat d) cs => ∀ hs ps v H, Lv hs0 ps0 H0 hs ps H → HR K hs ps H cs → Dp K (hid hs H) v d → D.rt v H
  | .rt (.new xs) cs => ∀ hs ps p vs H, Lv hs0 ps0 H0 hs ps H → p ∈ hs → H0 p = none → HR K hs ps H cs → H p = some (.lst vs) → DpAll K (hid hs H) vs xs → D.rt (.ref p) H
def SD (ts : TS) (st : Sta) (o : Out) : Prop := ∀ hs0 ps0 H0, ps0.length ≤ n0 → (∀ p ∈ hs0, H0 p ≠ none) → ∀ hs ps σ H, Lv hs0 ps0 H0 hs ps H → Rel K hs ps σ H st → ∀ D : Ends, Post K hs0 ps0 H0 D o → ts D σ H
end
structure RS (X : Cx) (n0 : Nat) (s : Stmt) (f : FS) : Prop where
  h : ∀ st o, f st = some o → SD X.K n0 (wS X s) st o
instance (X : Cx) (n0 : Nat) (s : Stmt) (f : FS) : CoeFun (RS X n0 s f) (fun _ => ∀ st o, f st = some o → SD X.K n0 (wS X s) st o) := ⟨fun r => r.h⟩
structure RSs (X : Cx) (n0 : Nat) (ss : List Stmt) (f : FS) : Prop where
  h : ∀ st o, f st = some o → SD X.K n0 (wSs X ss) st o
instance (X : Cx) (n0 : Nat) (ss : List Stmt) (f : FS) : CoeFun (RSs X n0 ss f) (fun _ => ∀ st o, f st = some o → SD X.K n0 (wSs X ss) st o) := ⟨fun r => r.h⟩
section
variable {X : Cx} {n0 : Nat} {s : Stmt} {ss : List Stmt} {st : Sta} {o : Out}
theorem RS.of {t : TS} (p : PS X s t) (k : SD X.K n0 t st o) : SD X.K n0 (wS X s) st o := fun hs0 ps0 H0 h1 h2 hs ps σ H L R D q pins s I => p.run pins s σ H D I (k hs0 ps0 H0 h1 h2 hs ps σ H L R D q)
theorem RSs.of {t : TS} (p : PSs X ss t) (k : SD X.K n0 t st o) : SD X.K n0 (wSs X ss) st o := fun hs0 ps0 H0 h1 h2 hs ps σ H L R D q pins s I => p.run pins s σ H D I (k hs0 ps0 H0 h1 h2 hs ps σ H L R D q)
end
def fSkip : FS := fun st => some (.nx st)
def fSeq (a b : FS) : FS := fun st => (a st).bind fun
  | .nx st1 => b st1
  | o => some o
def fNever : FS := fun _ => none
def fRet (e : FE) : FS := fun st => (e st).map fun p => .rt (.dat p.1) p.2
def fRetL (e : FL) : FS := fun st => (e st).map fun p => .rt (.new p.1) p.2
def fRetN : FS := fun st => some (.rt (.dat .none) st.cs)
def fSet (i : Nat) (e : FE) : FS := fun st => (e st).map fun p => .nx ⟨st.ds.set i (some (.dat p.1)), p.2⟩
def fAsg (g : FG) (e : FE) : FS := fun st => (e st).bind fun p => (g ⟨st.ds, p.2⟩ p.1).map .nx
def fNew (i : Nat) (e : FL) : FS := fun st => (e st).map fun p => .nx ⟨st.ds.set i (some (.cel p.2.length)), p.2 ++ [p.1]⟩
def noCel (k : Nat) : Slots → Bool
  | [] => true
  | some (.cel j) :: r => decide (j ≠ k) && noCel k r
  | _ :: r => noCel k r
def fFrz (n0 i : Nat) (b : FS) : FS := fun st => match st.ds[i]? with
  | some (some (.cel k)) => if n0 ≤ k ∧ k + 1 = st.cs.length then (st.cs[k]?).bind fun xs => if noCel k (st.ds.set i (some (.dat (.list xs)))) = true then b ⟨st.ds.set i (some (.dat (.list xs))), st.cs.dropLast⟩ else none else none
  | _ => none
theorem take_some {α : Type} {l : List α} {n i : Nat} {x : α} (h : (l.take n)[i]? = some x) : l[i]? = some x := by
  rw [List.getElem?_take] at h
  split at h
  · exact h
  · cases h
theorem noCel_ok {k : Nat} : ∀ {ds : Slots} {i j : Nat}, noCel k ds = true → ds[i]? = some (some (.cel j)) → j ≠ k
  | [], _, _, _, e => by cases e
  | some (.cel a) :: r, 0, j, h, e => by
    have h' : (decide (a ≠ k) && noCel k r) = true := h
    rw [Bool.and_eq_true] at h'
    have e' : a = j := by simpa using e
    rw [← e']; exact of_decide_eq_true h'.1
  | some (.cel a) :: r, i + 1, j, h, e => by
    have h' : (decide (a ≠ k) && noCel k r) = true := h
    rw [Bool.and_eq_true] at h'
    exact noCel_ok (i := i) h'.2 (by simpa using e)
  | some (.dat _) :: r, 0, j, h, e => by simp at e
  | none :: r, 0, j, h, e => by simp at e
  | some (.dat _) :: r, i + 1, j, h, e => noCel_ok (ds := r) (i := i) h (by simpa using e)
  | none :: r, i + 1, j, h, e => noCel_ok (ds := r) (i := i) h (by simpa using e)
def fIfS (t : FT) (a b : FS) : FS := fun st => (t st).bind fun p => if p.1 = true then a ⟨st.ds, p.2⟩ else b ⟨st.ds, p.2⟩
def fDrop (e : FE) : FS := fun st => (e st).map fun p => .nx ⟨st.ds, p.2⟩
def fPar (i j : Nat) (a : FA) : FS := fun st => (a st).bind fun p => match p.1 with
  | [.dat x, .dat y] => some (.nx ⟨(st.ds.set i (some (.dat x))).set j (some (.dat y)), p.2⟩)
  | _ => none
/-- x[k] = e, x a list of one's own: e, then k -/
def fSetc (i : Nat) (k e : FE) : FS := fun st => (e st).bind fun p => (k ⟨st.ds, p.2⟩).bind fun q => match st.ds[i]?, q.1 with
  | some (some (.cel c)), .int j => (q.2[c]?).bind fun xs => (ixN xs.length j).map fun m => .nx ⟨st.ds, q.2.set c (xs.set m p.1)⟩
  | _, _ => none
/-- x[k], y = e -/
def fSetc2 (i : Nat) (k : FE) (j : Nat) (e : FE) : FS := fun st => (e st).bind fun p => match p.1 with
  | .tuple [a, b] => (k ⟨st.ds, p.2⟩).bind fun q => match st.ds[i]?, q.1 with
    | some (some (.cel c)), .int m => (q.2[c]?).bind fun xs => (ixN xs.length m).map fun m => .nx ⟨st.ds.set j (some (.dat b)), q.2.set c (xs.set m a)⟩
    | _, _ => none
  | _ => none
def forGo (g : FG) (b : FS) : List PyData → Sta → Option Out
  | [], st => some (.nx st)
  | x :: xs, st => (g st x).bind fun st1 => (b st1).bind fun
    | .nx st2 => forGo g b xs st2
    | .ct st2 => forGo g b xs st2
    | .bk st2 => some (.nx st2)
    | .rt r c => some (.rt r c)
def fFor (it : FL) (g : FG) (b : FS) : FS := fun st => (it st).bind fun p => forGo g b p.1 ⟨st.ds, p.2⟩
def whileGo (t : FT) (b : FS) : Nat → Sta → Option Out
  | 0, _ => none
  | n + 1, st => (t st).bind fun p => if p.1 = true then (b ⟨st.ds, p.2⟩).bind fun
      | .nx st2 => whileGo t b n st2
      | .ct st2 => whileGo t b n st2
      | .bk st2 => some (.nx st2)
      | .rt r c => some (.rt r c)
    else some (.nx ⟨st.ds, p.2⟩)
def FUEL : Nat := 2 ^ 10000
def fWhile (t : FT) (b : FS) : FS := whileGo t b FUEL
section
variable {K : PySem.W.Frag} {hs ps hs0 ps0 : List Addr} {σ : St} {H H0 H2 : Hp} {st : Sta} {cs : Cs}
/-- a list of one's own is stored into -/
theorem Rel.put (R : Rel K hs ps σ H st) {c m : Nat} {p : Addr} {xs : List PyData} {vs : List V} {v : V} {d : PyData} (hp : ps[c]? = some p) (hx : st.cs[c]? = some xs) (hv : H p = some (.lst vs)) (da : DpAll K (hid hs H) vs xs) (dv : Dp K (hid hs H) v d) :
    Step ps H (upd H p (.lst (vs.set m v))) ∧ Rel K hs ps σ (upd H p (.lst (vs.set m v))) ⟨st.ds, st.cs.set c (xs.set m d)⟩ := by
  have hin := R.hr.sub p (List.mem_of_getElem? hp)
  have sb : Sub (hid hs H) (hid hs (upd H p (.lst (vs.set m v)))) := fun a o e => by
    obtain ⟨n, k⟩ := hid_some e
    rw [hid_out n, upd_ne (fun z => n (by rw [z]; exact hin))]; exact k
  refine ⟨fun a o n e => by rw [upd_ne (fun z => n (by rw [z]; exact List.mem_of_getElem? hp))]; exact e, R.slots sb ⟨R.hr.sub, R.hr.nd, by simp [R.hr.len], fun a ma => ?_, fun i q ys k1 k2 => ?_⟩⟩
  · by_cases e : a = p
    · rw [e, upd_same]; simp
    · rw [upd_ne e]; exact R.hr.trk a ma
  · by_cases e : c = i
    · subst e
      rw [hp] at k1
      cases k1
      have hl : c < st.cs.length := by
        by_cases hl : c < st.cs.length
        · exact hl
        · rw [List.getElem?_eq_none (by omega)] at hx; cases hx
      rw [List.getElem?_set_self hl] at k2
      cases k2
      exact ⟨_, upd_same, (da.set' m dv).up sb⟩
    · rw [List.getElem?_set_ne e] at k2
      obtain ⟨ws, q1, q2⟩ := R.hr.cel i q ys k1 k2
      have hne : q ≠ p := fun z => by
        subst z
        have h1 : c < ps.length := by
          by_cases hl : c < ps.length
          · exact hl
          · rw [List.getElem?_eq_none (by omega)] at hp; cases hp
        have h2 : i < ps.length := by
          by_cases hl : i < ps.length
          · exact hl
          · rw [List.getElem?_eq_none (by omega)] at k1; cases k1
        exact e ((List.getElem_inj R.hr.nd).mp (by
          rw [List.getElem?_eq_getElem h1] at hp
          rw [List.getElem?_eq_getElem h2] at k1
          rw [Option.some.inj hp, Option.some.inj k1]))
      exact ⟨ws, by rw [upd_ne hne]; exact q1, q2.up sb⟩
/-- a new list of one's own -/
theorem Rel.own (L : Lv hs0 ps0 H0 hs ps H) {p : Addr} {vs : List V} {xs : List PyData} (i : Nat) (hp : H p = none) (s : Step ps H H2) (R2 : Rel K (p :: hs) ps σ H2 ⟨st.ds, cs⟩) (e : H2 p = some (.lst vs)) (da : DpAll K (hid (p :: hs) H2) vs xs) (R : Rel K hs ps σ H st) :
    Lv hs0 ps0 H0 (p :: hs) (ps ++ [p]) H2 ∧ Rel K (p :: hs) (ps ++ [p]) (σ.set i (some (.ref p))) H2 ⟨st.ds.set i (some (.cel cs.length)), cs ++ [xs]⟩ := by
  have hp0 : H0 p = none := by
    cases q : H0 p with
    | none => rfl
    | some o =>
      by_cases m : p ∈ ps0
      · obtain ⟨l, el⟩ := L.pre
        exact absurd hp (R.hr.trk p (R.hr.sub p (by rw [el]; exact List.mem_append_left _ m)))
      · rw [L.stp p o m q] at hp; cases hp
  have npp : p ∉ ps := fun m => R.hr.trk p (R.hr.sub p m) hp
  obtain ⟨l, el⟩ := L.pre
  have L2 := L.step s
  refine ⟨⟨⟨l ++ [p], by rw [el]; simp⟩, fun a m n => ?_, fun a m n => ?_, fun a m => List.mem_cons_of_mem _ (L.hss a m), L2.stp⟩, ?_⟩
  · rcases List.mem_append.mp m with m | m
    · exact L.nps a m n
    · rw [List.mem_singleton.mp m]; exact hp0
  · rcases List.mem_cons.mp m with m | m
    · rw [m]; exact hp0
    · exact L.nhs a m n
  · have HR2 : HR K (p :: hs) (ps ++ [p]) H2 (cs ++ [xs]) := by
      refine ⟨fun a m => ?_, ?_, by simp [R2.hr.len], R2.hr.trk, fun j q ys k1 k2 => ?_⟩
      · rcases List.mem_append.mp m with m | m
        · exact R2.hr.sub a m
        · rw [List.mem_singleton.mp m]; exact List.mem_cons_self
      · rw [List.nodup_append]
        exact ⟨R2.hr.nd, by simp, fun a ma b mb => by rw [List.mem_singleton.mp mb]; exact fun z => npp (z ▸ ma)⟩
      · by_cases hj : j < ps.length
        · rw [List.getElem?_append_left hj] at k1
          rw [List.getElem?_append_left (by rw [← R2.hr.len]; exact hj)] at k2
          exact R2.hr.cel j q ys k1 k2
        · rw [List.getElem?_append_right (by omega)] at k1
          rw [List.getElem?_append_right (by rw [← R2.hr.len]; omega)] at k2
          have hj2 : j = ps.length := by
            by_cases z : j - ps.length = 0
            · omega
            · rw [List.getElem?_eq_none (by simp; omega)] at k1; cases k1
          subst hj2
          rw [Nat.sub_self] at k1
          rw [← R2.hr.len, Nat.sub_self] at k2
          cases k1
          cases k2
          exact ⟨vs, e, da⟩
    have R3 : Rel K (p :: hs) (ps ++ [p]) σ H2 ⟨st.ds, cs ++ [xs]⟩ := ⟨HR2, R2.len, fun j x ex => by
      obtain ⟨v, h1, h2⟩ := R2.slot j x ex
      refine ⟨v, h1, ?_⟩
      cases x with
      | dat d => exact h2
      | cel c =>
        obtain ⟨q, h3, h4⟩ := h2
        refine ⟨q, ?_, h4⟩
        rw [List.getElem?_append_left (by
          by_cases hl : c < ps.length
          · exact hl
          · rw [List.getElem?_eq_none (by omega)] at h3; cases h3)]
        exact h3⟩
    exact R3.set i (x := .cel cs.length) ⟨p, by rw [← R2.hr.len]; simp, rfl⟩
end
section
variable {X : Cx} {n0 : Nat} {s : Stmt} {ss : List Stmt} {e a b : Expr} {pos : Pos} {f g : FS} {fe fk : FE} {fl : FL} {ft : FT} {fa : FA}
theorem rss_nil : RSs X n0 [] fSkip := .mk fun st o h => by
  cases h
  exact RSs.of pss_nil fun hs0 ps0 H0 _ _ hs ps σ H L R D q => q hs ps σ H L R
theorem rss_cons (h1 : RS X n0 s f) (h2 : RSs X n0 ss g) : RSs X n0 (s :: ss) (fSeq f g) := .mk fun st o h => by
  obtain ⟨o1, e1, h⟩ := bind_some h
  refine RSs.of (pss_cons (pwS s) (pwSs ss)) fun hs0 ps0 H0 i1 i2 hs ps σ H L R D q => h1 _ _ e1 hs0 ps0 H0 i1 i2 hs ps σ H L R _ ?_
  cases o1 with
  | nx st1 => exact fun hs' ps' σ' H' L' R' => h2 _ _ h hs0 ps0 H0 i1 i2 hs' ps' σ' H' L' R' D q
  | bk st1 => cases h; exact q
  | ct st1 => cases h; exact q
  | rt r c =>
    cases h
    cases r <;> exact q
theorem rss_one (h1 : RS X n0 s f) : RSs X n0 [s] f := .mk fun st o h => RSs.of (pss_one (pwS s)) (h1 st o h)
/-- from here on a list of one's own is plain data -/
theorem rss_frz {i : Nat} (h1 : RSs X n0 ss f) : RSs X n0 ss (fFrz n0 i f) := .mk fun st o h => by
  unfold fFrz at h
  split at h
  · rename_i k e0
    split at h
    · rename_i hk
      obtain ⟨xs, ex, h⟩ := bind_some h
      split at h
      case isFalse => cases h
      rename_i hno
      intro hs0 ps0 H0 i1 i2 hs ps σ H L R D q
      obtain ⟨v, hv, p, hp, rfl⟩ := R.slot i _ e0
      obtain ⟨vs, q1, q2⟩ := R.hr.cel k p xs hp ex
      obtain ⟨l, el⟩ := L.pre
      have hlen := R.hr.len
      have hpl : ps = ps.dropLast ++ [p] := by
        have hne : ps ≠ [] := fun z => by rw [z] at hp; simp at hp
        have hlast : ps.getLast hne = p := by
          rw [List.getLast_eq_getElem]
          have hk2 : k < ps.length := by omega
          rw [List.getElem?_eq_getElem hk2] at hp
          have ek : ps.length - 1 = k := by omega
          simp only [ek]
          exact Option.some.inj hp
        rw [← hlast]
        exact (List.dropLast_concat_getLast hne).symm
      have npd : p ∉ ps.dropLast := fun m => by
        have nd := R.hr.nd
        rw [hpl, List.nodup_append] at nd
        exact nd.2.2 p m p (by simp) rfl
      have hp0 : p ∉ ps0 := fun m => by
        have hl0 : ps0.length ≤ ps.dropLast.length := by rw [List.length_dropLast]; omega
        have e2 : ps0 = ps.dropLast.take ps0.length := by
          have : ps.dropLast.take ps0.length = ps.take ps0.length := by
            rw [List.dropLast_eq_take, List.take_take, Nat.min_eq_left (by rw [List.length_dropLast] at hl0; exact hl0)]
          rw [this, el, List.take_left]
        rw [e2] at m
        exact npd (List.mem_of_mem_take m)
      let hs' := hs.filter (fun a => decide (a ≠ p))
      have hsub : ∀ a ∈ hs', a ∈ hs := fun a m => (List.mem_filter.mp m).1
      have hnp : p ∉ hs' := fun m => by simpa using (List.mem_filter.mp m).2
      have sb : Sub (hid hs H) (hid hs' H) := fun a o e => by
        obtain ⟨n, k⟩ := hid_some e
        rw [hid_out fun m => n (hsub a m)]; exact k
      have hps : ∀ a ∈ ps.dropLast, a ∈ hs' := fun a m => List.mem_filter.mpr ⟨R.hr.sub a (List.dropLast_subset _ m), by simpa using fun z : a = p => npd (z ▸ m)⟩
      have L' : Lv hs0 ps0 H0 hs' ps.dropLast H := by
        refine ⟨⟨l.dropLast, ?_⟩, fun a m n => L.nps a (List.dropLast_subset _ m) n, fun a m n => L.nhs a (hsub a m) n, fun a m => List.mem_filter.mpr ⟨L.hss a m, ?_⟩, L.stp⟩
        · have hl : l ≠ [] := fun z => by
            rw [z, List.append_nil] at el
            exact hp0 (by rw [← el]; exact List.mem_of_getElem? hp)
          rw [el, List.dropLast_append_of_ne_nil hl]
        · have h0 : H0 p = none := L.nps p (List.mem_of_getElem? hp) hp0
          simpa using fun z : a = p => i2 a m (by rw [z]; exact h0)
      have ndl : ps.dropLast.Nodup := R.hr.nd.sublist (List.dropLast_sublist _)
      have getd : ∀ {c : Nat} {q : Addr}, c ≠ k → ps[c]? = some q → ps.dropLast[c]? = some q := fun {c q} hc e => by
        have hl : c < ps.length := by
          by_cases hl : c < ps.length
          · exact hl
          · rw [List.getElem?_eq_none (by omega)] at e; cases e
        rw [List.dropLast_eq_take, List.getElem?_take_of_lt (by omega)]
        exact e
      have R' : Rel X.K hs' ps.dropLast σ H ⟨st.ds.set i (some (.dat (.list xs))), st.cs.dropLast⟩ := by
        refine ⟨⟨hps, ndl, by simp [hlen], fun a m => R.hr.trk a (hsub a m), fun j q ys k1 k2 => ?_⟩, by simp [R.len], fun j x ej => ?_⟩
        · have k1' : ps[j]? = some q := by
            rw [List.dropLast_eq_take] at k1
            exact take_some k1
          have k2' : st.cs[j]? = some ys := by
            rw [List.dropLast_eq_take] at k2
            exact take_some k2
          obtain ⟨ws, q3, q4⟩ := R.hr.cel j q ys k1' k2'
          exact ⟨ws, q3, q4.up sb⟩
        · by_cases hj : i = j
          · subst hj
            have hl : i < st.ds.length := by
              by_cases hl : i < st.ds.length
              · exact hl
              · rw [List.getElem?_eq_none (by omega)] at e0; cases e0
            rw [List.getElem?_set_self hl] at ej
            cases ej
            exact ⟨_, hv, .lst (.inl (.inl (by rw [hid_out hnp]; exact q1))) (q2.up sb)⟩
          · have ej' := ej
            rw [List.getElem?_set_ne hj] at ej
            obtain ⟨w, w1, w2⟩ := R.slot j x ej
            refine ⟨w, w1, ?_⟩
            cases x with
            | dat d => exact Dp.up w2 sb
            | cel c =>
              obtain ⟨q, w3, w4⟩ := w2
              exact ⟨q, getd (noCel_ok hno ej') w3, w4⟩
      exact h1 _ _ h hs0 ps0 H0 i1 i2 hs' ps.dropLast σ H L' R' D q
    · cases h
  · cases h
theorem rs_never : RS X n0 s fNever := .mk fun st o h => by cases h
theorem rss_never : RSs X n0 ss fNever := .mk fun st o h => by cases h
theorem rs_pass : RS X n0 (.Pass pos) fSkip := .mk fun st o h => by
  cases h
  exact RS.of ps_pass fun hs0 ps0 H0 _ _ hs ps σ H L R D q => q hs ps σ H L R
theorem rs_break : RS X n0 (.Break pos) (fun st => some (.bk st)) := .mk fun st o h => by
  cases h
  exact RS.of ps_break fun hs0 ps0 H0 _ _ hs ps σ H L R D q => q hs ps σ H L R
theorem rs_cont : RS X n0 (.Continue pos) (fun st => some (.ct st)) := .mk fun st o h => by
  cases h
  exact RS.of ps_continue fun hs0 ps0 H0 _ _ hs ps σ H L R D q => q hs ps σ H L R
theorem rs_ret (h : RE X e fe) : RS X n0 (.Return (some e) pos) (fRet fe) := .mk fun st o hq => by
  obtain ⟨⟨d, c⟩, h1, rfl⟩ := map_some hq
  exact RS.of (ps_ret (pwE e)) fun hs0 ps0 H0 _ _ hs ps σ H L R D q => h _ _ _ h1 hs ps σ H R _ fun v H2 s2 R2 d2 => q hs ps v H2 (L.step s2) R2.hr d2
theorem rs_retN : RS X n0 (.Return none pos) fRetN := .mk fun st o h => by
  cases h
  exact RS.of ps_retN fun hs0 ps0 H0 _ _ hs ps σ H L R D q => q hs ps _ H L R.hr .non
theorem rs_retL (h : RL X e fl) : RS X n0 (.Return (some e) pos) (fRetL fl) := .mk fun st o hq => by
  obtain ⟨⟨d, c⟩, h1, rfl⟩ := map_some hq
  exact RS.of (ps_ret (pwE e)) fun hs0 ps0 H0 i1 i2 hs ps σ H L R D q => h _ _ _ h1 hs ps σ H R _ fun p vs H2 hp s2 R2 e2 d2 => by
    obtain ⟨L2, R3⟩ := Rel.own L 0 hp s2 R2 e2 d2 R
    exact q (p :: hs) ps p vs H2 ⟨L.pre, L.nps, L2.nhs, L2.hss, L2.stp⟩ List.mem_cons_self (L2.nhs p List.mem_cons_self fun m => R.hr.trk p (L.hss p m) hp) R2.hr e2 d2
theorem rs_asg {tg : Expr} {t : TG} {js : List Nat} {fg : FG} (h : RE X e fe) (hg : RG X tg t js fg) (hs : swapsWithSole [tg] e pos.line X.env = pure false := by rfl) (hw : swappedStores [tg] e X.env = pure none := by rfl)
    (h1 : (assignEach [tg] X.env).map (·.2) = [assign tg X.env] := by rfl) : RS X n0 (.Assign [tg] e pos) (fAsg fg fe) := .mk fun st o hq => by
  obtain ⟨⟨d, c⟩, e1, hq⟩ := bind_some hq
  obtain ⟨st1, e2, rfl⟩ := map_some hq
  exact RS.of (ps_asg (pwE e) hg.pg hs hw h1) fun hs0 ps0 H0 i1 i2 hs ps σ H L R D q => h _ _ _ e1 hs ps σ H R _ fun v H2 s2 R2 d2 => hg.eg hs ps σ H2 _ _ v d R2 d2 e2 _ fun σ' R3 _ => q hs ps σ' H2 (L.step s2) R3
theorem rs_set {i : Nat} {x : Str} {pos' : Pos} (hN : X.N.Nodup) (hi : X.N[i]? = some x) (hx : Loc X.env.scope x) (h : RE X e fe) (hs : swapsWith e (some (.Name x pos')) pos.line X.env = pure false := by rfl) (hf : X.fn x = true ∨ X.env.scope.names.lookup x = some .local := by first | exact .inl rfl | exact .inr rfl | assumption) :
    RS X n0 (.Assign [.Name x pos'] e pos) (fSet i fe) := .mk fun st o hq => by
  obtain ⟨⟨d, c⟩, e1, rfl⟩ := map_some hq
  exact RS.of (ps_set hN hi hx (pwE e) hs hf) fun hs0 ps0 H0 i1 i2 hs ps σ H L R D q => h _ _ _ e1 hs ps σ H R _ fun v H2 s2 R2 d2 => q hs ps _ H2 (L.step s2) (R2.set i (x := .dat d) d2)
/-- x = a new list, a list of one's own -/
theorem rs_new {i : Nat} {x : Str} {pos' : Pos} (hN : X.N.Nodup) (hi : X.N[i]? = some x) (hx : Loc X.env.scope x) (h : RL X e fl) (hs : swapsWith e (some (.Name x pos')) pos.line X.env = pure false := by rfl) (hf : X.fn x = true ∨ X.env.scope.names.lookup x = some .local := by first | exact .inl rfl | exact .inr rfl | assumption) :
    RS X n0 (.Assign [.Name x pos'] e pos) (fNew i fl) := .mk fun st o hq => by
  obtain ⟨⟨d, c⟩, e1, rfl⟩ := map_some hq
  exact RS.of (ps_set hN hi hx (pwE e) hs hf) fun hs0 ps0 H0 i1 i2 hs ps σ H L R D q => h _ _ _ e1 hs ps σ H R _ fun p vs H2 hp s2 R2 e2 d2 => by
    obtain ⟨L2, R3⟩ := Rel.own L i hp s2 R2 e2 d2 R
    exact q _ _ _ H2 L2 R3
theorem rs_if {cc : Expr} {u v : List Stmt} (hc : RT X cc ft) (h1 : RSs X n0 u f) (h2 : RSs X n0 v g) : RS X n0 (.If cc u v pos) (fIfS ft f g) := .mk fun st o hq => by
  obtain ⟨⟨b, c⟩, e1, hq⟩ := bind_some hq
  refine RS.of (ps_if (pwT cc) (pwSs u) (pwSs v)) fun hs0 ps0 H0 i1 i2 hs ps σ H L R D q => hc _ _ _ e1 hs ps σ H R _ fun H2 s2 R2 => ?_
  cases b with
  | true =>
    rw [if_pos rfl] at hq ⊢
    exact h1 _ _ hq hs0 ps0 H0 i1 i2 hs ps σ H2 (L.step s2) R2 D q
  | false =>
    rw [if_neg (by simp)] at hq ⊢
    exact h2 _ _ hq hs0 ps0 H0 i1 i2 hs ps σ H2 (L.step s2) R2 D q
theorem rs_drop (h : RE X e fe) (hs : swapsWith e none pos.line X.env = pure false := by rfl) : RS X n0 (.Expr e pos) (fDrop fe) := .mk fun st o hq => by
  obtain ⟨⟨d, c⟩, e1, rfl⟩ := map_some hq
  exact RS.of (ps_expr (pwE e) hs) fun hs0 ps0 H0 i1 i2 hs ps σ H L R D q => h _ _ _ e1 hs ps σ H R _ fun v H2 s2 R2 d2 => q hs ps σ H2 (L.step s2) R2
theorem rs_par {i j : Nat} {x y : Str} {px py pt : Pos} {kt k2 pt2} (hc : X.calm = true) (hN : X.N.Nodup) (hi : X.N[i]? = some x) (hj : X.N[j]? = some y) (hij : i ≠ j) (hx : X.env.scope.names.lookup x = some .local) (hy : X.env.scope.names.lookup y = some .local) (ha : RA X [a, b] fa)
    {P : PS X (.Assign [.Tuple [.Name x px, .Name y py] kt pt] (.Tuple [a, b] k2 pt2) pos) (tPar i j (wA X [a, b]))} : RS X n0 (.Assign [.Tuple [.Name x px, .Name y py] kt pt] (.Tuple [a, b] k2 pt2) pos) (fPar i j fa) := .mk fun st o hq => by
  obtain ⟨⟨xs, c⟩, e1, hq⟩ := bind_some hq
  simp only at hq
  split at hq
  · cases hq
    refine RS.of P fun hs0 ps0 H0 i1 i2 hs ps σ H L R D q => ha _ _ _ e1 hs ps σ H R _ fun vs H2 s2 R2 p2 => ?_
    obtain ⟨v, w, rfl, d1, d2⟩ := dpa2 (paired_dat (ds := [_, _]) p2)
    exact ⟨v, w, rfl, q hs ps _ H2 (L.step s2) ((R2.set i (x := .dat _) d1).set j (x := .dat _) d2)⟩
  · cases hq
theorem rs_setc {i : Nat} {x : Str} {k : Expr} {p1 p2 : Pos} (hN : X.N[i]? = some x) (hv : Vis X.env.scope x) (hk : RE X k fk) (h : RE X e fe) (hd : (x == ("__debug__" : Str)) = false := by decide) (hcd : (x == ("__classdict__" : Str)) = false := by decide)
    (ha : ∀ v, assign (.Subscript (.Name x p1) k p2) X.env v = (do
      let ov ← holding [v] (eval (.Name x p1) X.env)
      let iv ← holding [v, ov] (eval k X.env)
      standAt p2
      holding [v, ov, iv] (setItem ov iv v)
      release [v, ov, iv] []) := by intro _; rfl) (hs : swapsWithSole [.Subscript (.Name x p1) k p2] e pos.line X.env = pure false := by rfl) (hw : swappedStores [.Subscript (.Name x p1) k p2] e X.env = pure none := by rfl)
    (h1 : (assignEach [.Subscript (.Name x p1) k p2] X.env).map (·.2) = [assign (.Subscript (.Name x p1) k p2) X.env] := by rfl) : RS X n0 (.Assign [.Subscript (.Name x p1) k p2] e pos) (fSetc i fk fe) := .mk fun st o hq => by
  obtain ⟨⟨d, c⟩, e1, hq⟩ := bind_some hq
  obtain ⟨⟨m, c2⟩, e2, hq⟩ := bind_some hq
  simp only at hq
  split at hq
  · rename_i c0 j es
    obtain ⟨xs, ex, hq⟩ := bind_some hq
    obtain ⟨m, em, rfl⟩ := map_some hq
    refine RS.of (ps_asg (pwE e) (pg_sub (pe_var hN hv hd hcd) (pwE k) set_list ha) hs hw h1) fun hs0 ps0 H0 i1 i2 hs ps σ H L R D q => h _ _ _ e1 hs ps σ H R _ fun v H2 s2 R2 d2 => ?_
    obtain ⟨w, w1, p, w2, rfl⟩ := R2.slot i _ es
    refine ⟨_, w1, hk _ _ _ e2 hs ps σ H2 R2 _ fun u H3 s3 R3 d3 => ?_⟩
    cases dp_int d3
    obtain ⟨vs, q1, q2⟩ := R3.hr.cel c0 p xs w2 ex
    have dv := d2.up (s3.hd0 R2.hr.sub)
    obtain ⟨s4, R4⟩ := R3.put (m := m) w2 ex q1 q2 dv
    exact ⟨p, vs, j, m, rfl, rfl, q1, by rw [q2.len]; exact em, q hs ps σ _ (((L.step s2).step s3).step s4) R4⟩
  · cases hq
theorem rs_setc2 {i j : Nat} {x y : Str} {k : Expr} {p1 p2 p3 p4 : Pos} {kt} (hc : X.calm = true) (hNd : X.N.Nodup) (hN : X.N[i]? = some x) (hv : Vis X.env.scope x) (hj : X.N[j]? = some y) (hy : Loc X.env.scope y) (hij : i ≠ j) (hk : RE X k fk) (h : RE X e fe) (hd : (x == ("__debug__" : Str)) = false := by decide) (hcd : (x == ("__classdict__" : Str)) = false := by decide)
    (ha : ∀ v, assign (.Subscript (.Name x p1) k p2) X.env v = (do
      let ov ← holding [v] (eval (.Name x p1) X.env)
      let iv ← holding [v, ov] (eval k X.env)
      standAt p2
      holding [v, ov, iv] (setItem ov iv v)
      release [v, ov, iv] []) := by intro _; rfl) (hf : X.fn y = true ∨ X.env.scope.names.lookup y = some .local := by first | exact .inl rfl | exact .inr rfl | assumption)
    {P : ∀ t : TE, PE X e t → PS X (.Assign [.Tuple [.Subscript (.Name x p1) k p2, .Name y p3] kt p4] e pos) (tAsg t (gTup X.K 2 (gCons (L2.gSub (tVar i) (wE X k) rSetL) (gCons (gName j) gNil))))} :
    RS X n0 (.Assign [.Tuple [.Subscript (.Name x p1) k p2, .Name y p3] kt p4] e pos) (fSetc2 i fk j fe) := .mk fun st o hq => by
  obtain ⟨⟨d, c⟩, e1, hq⟩ := bind_some hq
  simp only at hq
  split at hq
  · rename_i a0 b0
    obtain ⟨⟨m, c2⟩, e2, hq⟩ := bind_some hq
    simp only at hq
    split at hq
    · rename_i c0 m0 es
      obtain ⟨xs, ex, hq⟩ := bind_some hq
      obtain ⟨m, em, rfl⟩ := map_some hq
      refine RS.of (P _ (pwE e)) fun hs0 ps0 H0 i1 i2 hs ps σ H L R D q => h _ _ _ e1 hs ps σ H R _ fun v H2 s2 R2 d2 => ?_
      obtain ⟨tp, ws, rfl, ht, da⟩ := dp_tuple d2
      obtain ⟨va, vb, rfl, da1, da2⟩ := dpa2 da
      refine ⟨tp, _, rfl, sqT_mono hid_sub ht, rfl, va, [vb], rfl, ?_⟩
      obtain ⟨w, w1, p, w2, rfl⟩ := R2.slot i _ es
      refine ⟨_, w1, hk _ _ _ e2 hs ps σ H2 R2 _ fun u H3 s3 R3 d3 => ?_⟩
      cases dp_int d3
      obtain ⟨vs, q1, q2⟩ := R3.hr.cel c0 p xs w2 ex
      have sb := s3.hd0 R2.hr.sub
      obtain ⟨s4, R4⟩ := R3.put (m := m) w2 ex q1 q2 (da1.up sb)
      refine ⟨p, vs, m0, m, rfl, rfl, q1, by rw [q2.len]; exact em, vb, [], rfl, rfl, ?_⟩
      exact q hs ps _ _ (((L.step s2).step s3).step s4) (R4.set j (x := .dat b0) ((da2.up sb).up (s4.hd0 R3.hr.sub)))
    · cases hq
  · cases hq
/-! loops -/
theorem lv_trans {hs0 ps0 hs ps hs' ps' : List Addr} {H0 H2 H' : Hp} (L : Lv hs0 ps0 H0 hs ps H2) (M : Lv hs ps H2 hs' ps' H') (sub : ∀ p ∈ ps, p ∈ hs) : Lv hs0 ps0 H0 hs' ps' H' := by
  have back : ∀ a, a ∉ ps0 → H2 a = none → H0 a = none := fun a n e => by
    cases q : H0 a with
    | none => rfl
    | some o => rw [L.stp a o n q] at e; cases e
  obtain ⟨l, el⟩ := L.pre
  obtain ⟨l', el'⟩ := M.pre
  refine ⟨⟨l ++ l', by rw [el', el]; simp⟩, fun a m n => ?_, fun a m n => ?_, fun a m => M.hss a (L.hss a m), fun a o n e => ?_⟩
  · by_cases h : a ∈ ps
    · exact L.nps a h n
    · exact back a n (M.nps a m h)
  · by_cases h : a ∈ hs
    · exact L.nhs a h n
    · exact back a (fun h0 => h (sub a (by rw [el]; exact List.mem_append_left _ h0))) (M.nhs a m h)
  · refine M.stp a o (fun m => ?_) (L.stp a o n e)
    rw [L.nps a m n] at e; cases e
theorem lv_refl {hs ps : List Addr} {H : Hp} : Lv hs ps H hs ps H := ⟨⟨[], by simp⟩, fun _ m n => absurd m n, fun _ m n => absurd m n, fun _ m => m, Step.refl _⟩
/-- what is wanted, from a later base -/
theorem post_back {K : PySem.W.Frag} {hs0 ps0 hs ps : List Addr} {H0 H2 : Hp} {D : Ends} {r : RV} {c : Cs} (L : Lv hs0 ps0 H0 hs ps H2) (sub : ∀ p ∈ ps, p ∈ hs) (trk : ∀ a ∈ hs, H2 a ≠ none) (q : Post K hs0 ps0 H0 D (.rt r c)) (D' : Ends) (e : D'.rt = D.rt) : Post K hs ps H2 D' (.rt r c) := by
  cases r with
  | dat d => exact fun hs' ps' v H M R d => by rw [e]; exact q hs' ps' v H (lv_trans L M sub) R d
  | new xs =>
    exact fun hs' ps' p vs H M m n R e' d => by
      rw [e]
      refine q hs' ps' p vs H (lv_trans L M sub) m ?_ R e' d
      cases h : H0 p with
      | none => rfl
      | some o =>
        by_cases h2 : p ∈ ps0
        · obtain ⟨l, el⟩ := L.pre
          exact absurd n (trk p (sub p (by rw [el]; exact List.mem_append_left _ h2)))
        · rw [L.stp p o h2 h] at n; cases n
theorem lv_gd {hs ps hs' ps' : List Addr} {H2 H' : Hp} (M : Lv hs ps H2 hs' ps' H') (sub : ∀ p ∈ ps, p ∈ hs) : GD hs H2 H' := fun a o n e => M.stp a o (fun m => n (sub a m)) e
theorem rs_for {tg iter : Expr} {body : List Stmt} {t : TG} {js : List Nat} {fg : FG} {it : FL} (hp : PassesOwn (model X.prog X.w) X.A X.env X.xe) (hc : X.calm = true) (hi : RI X tg iter it) (hg : RG X tg t js fg) (hb : ∀ n, RSs X n body f)
    (hs : ∀ x, foldedSetIterable iter X.env x = pure x := by intro _; rfl) : RS X n0 (.For tg iter body [] pos) (fFor it fg f) := .mk fun st o hq => by
  obtain ⟨⟨xs, c⟩, e1, hq⟩ := bind_some hq
  refine RS.of (ps_for hp hc (pwI tg iter) hg.pg (pwSs body) hs) fun hs0 ps0 H0 i1 i2 hs ps σ H L R D q => hi _ _ _ e1 hs ps σ H R _ fun J H2 s2 R2 W => ?_
  have L2 := L.step s2
  have sub := R2.hr.sub
  have trk := R2.hr.trk
  refine ⟨fun i m σ3 H3 => m = xs.length - i ∧ i ≤ xs.length ∧ ∃ hs3 ps3 st3, Lv hs ps H2 hs3 ps3 H3 ∧ Rel X.K hs3 ps3 σ3 H3 st3 ∧ forGo fg f (xs.drop i) st3 = some o, ⟨xs.length, by simp, Nat.zero_le _, hs, ps, _, lv_refl, R2, hq⟩, ?_⟩
  rintro i m σ3 H3 ⟨rfl, hi', hs3, ps3, st3, M3, R3, go⟩
  have g3 := lv_gd M3 sub
  by_cases hlt : i < xs.length
  · refine .inr ⟨W.goes i H3 hlt g3, fun σ4 H4 => ∃ hs3 ps3 st3, Lv hs ps H2 hs3 ps3 H4 ∧ Rel X.K hs3 ps3 σ4 H4 st3 ∧ forGo fg f (xs.drop (i + 1)) st3 = some o, fun σ4 H4 h4 => ⟨xs.length - (i + 1), by omega, rfl, hlt, h4⟩, fun x H4 y4 => ?_⟩
    obtain ⟨s4, dx, ex, kx⟩ := W.yields i H3 x H4 hlt g3 y4
    have edr : xs.drop i = dx :: xs.drop (i + 1) := by
      rw [List.drop_eq_getElem_cons hlt]
      rw [List.getElem?_eq_getElem hlt] at ex
      cases ex; rfl
    rw [edr] at go
    obtain ⟨st1, go1, go⟩ := bind_some go
    obtain ⟨o1, go2, go⟩ := bind_some go
    have R4 := R3.step s4
    have M4 := M3.step (s4.mono (qs := ps3) (by simp))
    refine hg.eg hs3 ps3 σ3 H4 st3 st1 x dx R4 (kx hs3 M3.nhs R3.hr.trk) go1 _ fun σ5 R5 _ => ?_
    refine hb ps.length _ _ go2 hs ps H2 (Nat.le_refl _) trk hs3 ps3 σ5 H4 M4 R5 _ ?_
    cases o1 with
    | nx st2 => exact fun hs' ps' σ' H' M' R' => ⟨hs', ps', st2, M', R', go⟩
    | ct st2 => exact fun hs' ps' σ' H' M' R' => ⟨hs', ps', st2, M', R', go⟩
    | bk st2 =>
      cases go
      exact fun hs' ps' σ' H' M' R' => q hs' ps' σ' H' (lv_trans L2 M' sub) R'
    | rt r c =>
      cases go
      exact post_back L2 sub trk q _ rfl
  · have ei : i = xs.length := by omega
    subst ei
    rw [List.drop_eq_nil_of_le (Nat.le_refl _)] at go
    cases go
    exact .inl ⟨W.stops H3 g3, q hs3 ps3 σ3 H3 (lv_trans L2 M3 sub) R3⟩
theorem rs_while {cc : Expr} {body : List Stmt} (hp : PassesOwn (model X.prog X.w) X.A X.env X.xe) (hc : RT X cc ft) (hb : ∀ n, RSs X n body f) : RS X n0 (.While cc body [] pos) (fWhile ft f) := .mk fun st o hq => by
  refine RS.of (ps_while hp (pwT cc) (pwSs body)) fun hs0 ps0 H0 i1 i2 hs ps σ H L R D q => ?_
  have sub := R.hr.sub
  have trk := R.hr.trk
  refine ⟨fun m σ3 H3 => ∃ hs3 ps3 st3, Lv hs ps H hs3 ps3 H3 ∧ Rel X.K hs3 ps3 σ3 H3 st3 ∧ whileGo ft f m st3 = some o, ⟨FUEL, hs, ps, st, lv_refl, R, hq⟩, ?_⟩
  rintro m σ3 H3 ⟨hs3, ps3, st3, M3, R3, go⟩
  cases m with
  | zero => cases go
  | succ n =>
    obtain ⟨⟨b, c⟩, go1, go⟩ := bind_some (show (ft st3).bind _ = some o from go)
    refine hc _ _ _ go1 hs3 ps3 σ3 H3 R3 _ fun H4 s4 R4 => ?_
    have M4 := M3.step s4
    cases b with
    | false =>
      rw [if_neg (by simp)] at go ⊢
      cases go
      exact q hs3 ps3 σ3 H4 (lv_trans L M4 sub) R4
    | true =>
      rw [if_pos rfl] at go ⊢
      obtain ⟨o1, go2, go⟩ := bind_some go
      refine ⟨fun σ4 H4 => ∃ hs3 ps3 st3, Lv hs ps H hs3 ps3 H4 ∧ Rel X.K hs3 ps3 σ4 H4 st3 ∧ whileGo ft f n st3 = some o, fun σ4 H4 h4 => ⟨n, Nat.lt_succ_self n, h4⟩, ?_⟩
      refine hb ps.length _ _ go2 hs ps H (Nat.le_refl _) trk hs3 ps3 σ3 H4 M4 R4 _ ?_
      cases o1 with
      | nx st2 => exact fun hs' ps' σ' H' M' R' => ⟨hs', ps', st2, M', R', go⟩
      | ct st2 => exact fun hs' ps' σ' H' M' R' => ⟨hs', ps', st2, M', R', go⟩
      | bk st2 =>
        cases go
        exact fun hs' ps' σ' H' M' R' => q hs' ps' σ' H' (lv_trans L M' sub) R'
      | rt r c =>
        cases go
        exact post_back L sub trk q _ rfl
/-! x = [..] on one line -/
section
variable {elt tg iter : Expr} {ifs : List Expr} {scope : Scope} {own : List (Str × Nat)} {spos : Pos} {t : TG} {it : FL} {fg : FG} {js : List Nat}
theorem rs_setLc {i : Nat} {y : Str} {py : Pos} (hc : X.calm = true) (hN : X.N.Nodup) (hy : X.N[i]? = some y) (hyl : X.env.scope.names.lookup y = some .local)
    (hsw : swapsWith (.ListComp elt [⟨tg, iter, ifs, 0⟩] scope pos) (some (.Name y py)) spos.line X.env = pure true) (hi : RI X tg iter it) (ok : BlkOk X.N X.env.scope scope own)
    (hg : ∀ (s : Shared) (H : Hp) (C : Addr) (cl : List (Str × Addr)) (fp : List Addr), RG (X.blk s H scope (compEnvC scope cl C X.env) fp) tg t js fg) (ht : ∀ (s : Shared) (H : Hp) (C : Addr) (cl : List (Str × Addr)) (fp : List Addr), RTs (X.blk s H scope (compEnvC scope cl C X.env) fp) ifs ft)
    (he : ∀ (s : Shared) (H : Hp) (C : Addr) (cl : List (Str × Addr)) (fp : List Addr), RE (X.blk s H scope (compEnvC scope cl C X.env) fp) elt fe) (hj : ∀ j ∈ js, j ∈ own.map (·.2)) (hs : ∀ x, foldedSetIterable iter X.env x = pure x := by intro _; rfl) :
    RS X n0 (.Assign [.Name y py] (.ListComp elt [⟨tg, iter, ifs, 0⟩] scope pos) spos) (fSet i (fOfL (fLc it fg ft fe (own.map (·.2))))) := .mk fun st o hq => by
  obtain ⟨⟨d, c⟩, e1, rfl⟩ := map_some hq
  obtain ⟨⟨xs, c1⟩, e2, e3⟩ := map_some e1
  cases e3
  intro hs0 ps0 H0 i1 i2 hs' ps σ H L R D q pins s I
  exact RS.of (o := .nx ⟨st.ds.set i (some (.dat (.list xs))), _⟩) (ps_setLc hc hN hy hyl hsw (pwI tg iter) ok (fun s H C cl fp => (hg s H C cl fp).pg) (ptL ht) peL hs) (fun hs0 ps0 H0 i1 i2 hs ps σ H L R D q => (edl_lc s hi hg ht he hj e2).ed hs ps σ H R _ fun v H2 s2 R2 d2 => q hs ps _ H2 (L.step s2) (R2.set i (x := .dat (.list xs)) d2)) hs0 ps0 H0 i1 i2 hs' ps σ H L R D q pins s I
theorem rs_newLc {i : Nat} {y : Str} {py : Pos} (hc : X.calm = true) (hN : X.N.Nodup) (hy : X.N[i]? = some y) (hyl : X.env.scope.names.lookup y = some .local)
    (hsw : swapsWith (.ListComp elt [⟨tg, iter, ifs, 0⟩] scope pos) (some (.Name y py)) spos.line X.env = pure true) (hi : RI X tg iter it) (ok : BlkOk X.N X.env.scope scope own)
    (hg : ∀ (s : Shared) (H : Hp) (C : Addr) (cl : List (Str × Addr)) (fp : List Addr), RG (X.blk s H scope (compEnvC scope cl C X.env) fp) tg t js fg) (ht : ∀ (s : Shared) (H : Hp) (C : Addr) (cl : List (Str × Addr)) (fp : List Addr), RTs (X.blk s H scope (compEnvC scope cl C X.env) fp) ifs ft)
    (he : ∀ (s : Shared) (H : Hp) (C : Addr) (cl : List (Str × Addr)) (fp : List Addr), RE (X.blk s H scope (compEnvC scope cl C X.env) fp) elt fe) (hj : ∀ j ∈ js, j ∈ own.map (·.2)) (hs : ∀ x, foldedSetIterable iter X.env x = pure x := by intro _; rfl) :
    RS X n0 (.Assign [.Name y py] (.ListComp elt [⟨tg, iter, ifs, 0⟩] scope pos) spos) (fNew i (fLc it fg ft fe (own.map (·.2)))) := .mk fun st o hq => by
  obtain ⟨⟨d, c⟩, e1, rfl⟩ := map_some hq
  intro hs0 ps0 H0 i1 i2 hs' ps σ H L R D q pins s I
  exact RS.of (o := .nx ⟨st.ds.set i (some (.cel c.length)), c ++ [d]⟩) (ps_setLc hc hN hy hyl hsw (pwI tg iter) ok (fun s H C cl fp => (hg s H C cl fp).pg) (ptL ht) peL hs) (fun hs0 ps0 H0 i1 i2 hs ps σ H L R D q => (edl_lc s hi hg ht he hj e1) hs ps σ H R _ fun p vs H2 hp s2 R2 e2 d2 => by
    obtain ⟨L2, R3⟩ := Rel.own L i hp s2 R2 e2 d2 R
    exact q _ _ _ H2 L2 R3) hs0 ps0 H0 i1 i2 hs' ps σ H L R D q pins s I
end
end
end DL


set_option Elab.async false
set_option linter.all false
set_option maxRecDepth 100000
set_option maxHeartbeats 4000000
namespace DL
open PySem PySem.Spec L2
open PyProof.Rows hiding St

/-! ### defs -/
abbrev FnS := List SV → Cs → Option (RV × Cs)
def RetOk (K : PySem.W.Frag) (hs ps : List Addr) (H : Hp) (c : Cs) (r : RV) (Q : VK) : Prop :=
  match r with
  | .dat d => ∀ v H2, Step ps H H2 → HR K hs ps H2 c → Dp K (hid hs H2) v d → Q v H2
  | .new l => ∀ p vs H2, H p = none → Step ps H H2 → HR K (p :: hs) ps H2 c → H2 p = some (.lst vs) → DpAll K (hid (p :: hs) H2) vs l → Q (.ref p) H2
/-- the def at f computes F, by at most level k -/
structure FnG (P : Program) (w : World) (K : PySem.W.Frag) (mg : Str → Option Value) (base : Heap) (k : Nat) (f : Addr) (fd : FuncData) (ns : List Str) (F : FnS) : Prop where
  len : ∀ xs cs r c, F xs cs = some (r, c) → xs.length = ns.length
  run : ∀ (A : Around) (outer : List Env) (s : Shared) (H : Hp) (args : Args) (us : List Value) (vs : List V) (hs ps : List Addr) (cs c : Cs) (xs : List SV) (r : RV) (Q : VK), A.guards = some [] → Room k A → Env0 P w K mg base A outer s H → BindsTo s fd args (ns.zip us) → Vals vs us →
    HR K hs ps H cs → Paired (RelS K hs ps H) vs xs → F xs cs = some (r, c) → RetOk K hs ps H c r Q → codeAny (model P w) A (.call (.ref f) args) (CR CX0 outer P w H s Q E0) s
theorem FnG.mono {P : Program} {w : World} {K : PySem.W.Frag} {mg : Str → Option Value} {base : Heap} {j k : Nat} {f : Addr} {fd : FuncData} {ns : List Str} {F : FnS} (h : FnG P w K mg base j f fd ns F) (hj : j ≤ k) : FnG P w K mg base k f fd ns F :=
  ⟨h.len, fun A outer s H args us vs hs ps cs c xs r Q g hr => h.run A outer s H args us vs hs ps cs c xs r Q g (hr.mono hj)⟩
/-- what a body computes -/
def mkF (np N n0 : Nat) (body : FS) : FnS := fun xs cs => if xs.length = np ∧ cs.length = n0 then
    match body ⟨xs.map some ++ List.replicate (N - np) none, cs⟩ with
    | some (.rt r c) => some (r, c.take n0)
    | some (.nx st) => some (.dat .none, st.cs.take n0)
    | _ => none
  else none
theorem HR.take {K : PySem.W.Frag} {hs hs' ps l : List Addr} {H : Hp} {c : Cs} (R : HR K hs' (ps ++ l) H c) (h : ∀ a ∈ hs, a ∈ hs') (hp : ∀ p ∈ ps, p ∈ hs) : HR K hs ps H (c.take ps.length) := by
  have sb : Sub (hid hs' H) (hid hs H) := fun a o e => by
    obtain ⟨n, k⟩ := hid_some e
    rw [hid_out fun m => n (h a m)]; exact k
  have hl := R.len
  rw [List.length_append] at hl
  refine ⟨hp, (List.nodup_append.mp R.nd).1, by rw [List.length_take]; omega, fun a m => R.trk a (h a m), fun i p xs h1 h2 => ?_⟩
  have hi : i < ps.length := by
    by_cases hi : i < ps.length
    · exact hi
    · rw [List.getElem?_eq_none (by omega)] at h1; cases h1
  obtain ⟨vs, q1, q2⟩ := R.cel i p xs (by rw [List.getElem?_append_left hi]; exact h1) (take_some h2)
  exact ⟨vs, q1, q2.up sb⟩
theorem rel_start {K : PySem.W.Frag} {hs ps : List Addr} {H : Hp} {cs : Cs} {N : List Str} : ∀ {vs : List V} {xs : List SV}, HR K hs ps H cs → Paired (RelS K hs ps H) vs xs → Rel K hs ps (L2.start N vs) H ⟨xs.map some ++ List.replicate (N.length - xs.length) none, cs⟩ := fun {vs xs} h p => by
  have hl : vs.length = xs.length := Paired.length p
  refine ⟨h, ?_, fun i x e => ?_⟩
  · unfold L2.start
    simp [hl]
  · by_cases hi : i < xs.length
    · rw [List.getElem?_append_left (by simpa using hi), List.getElem?_map] at e
      obtain ⟨y, e1, e2⟩ := Option.map_eq_some_iff.mp e
      cases e2
      have go : ∀ {vs : List V} {xs : List SV} {i : Nat}, Paired (RelS K hs ps H) vs xs → xs[i]? = some x → ∃ v, vs[i]? = some v ∧ RelS K hs ps H v x := by
        intro vs xs i p
        induction p generalizing i with
        | nil => intro e; cases e
        | cons a t ih =>
          intro e
          cases i with
          | zero => cases e; exact ⟨_, rfl, a⟩
          | succ n => exact ih e
      obtain ⟨v, h1, h2⟩ := go p e1
      refine ⟨v, ?_, h2⟩
      unfold L2.start
      rw [List.getElem?_append_left (by simp [hl]; exact hi), List.getElem?_map, h1]; rfl
    · rw [List.getElem?_append_right (by simpa using hi), List.getElem?_replicate] at e
      split at e <;> cases e
section
variable {P : Program} {w : World} {K : PySem.W.Frag} {mg : Str → Option Value} {base : Heap} {n0 : Nat}
theorem fng_of {x : Str} {st : Stmt} {f : Addr} {fd : FuncData} {N ns : List Str} {k : Nat} {body : FS} (F : Fun K x x st f fd) (S : FnScope N ns (defScope st))
    (hb : ∀ (cdv : Value) (A : Around) (outer : List Env) (s : Shared) (H : Hp) (E : XK), A.guards = some [] → Room k (A.deeper (envOfC x (defScope st) s.heap.objs.size f cdv)) → RSs (cxOf CX0 P w K mg base N x (defScope st) f cdv A outer s H E).nox n0 (defBody st) body) :
    FnG P w K mg base (k + 1) f fd ns (mkF ns.length N.length n0 body) := by
  obtain ⟨oc, od, kV, doc, pm, an, cdv, ct, osl, rfl, lk, hcd⟩ := F.ex
  refine ⟨fun xs cs r c h => ?_, fun A outer s H args us vs hs ps cs c xs r Q hg hr e0 hbind hv hR hP hF hQ => ?_⟩
  · unfold mkF at h
    split at h
    · rename_i hl; exact hl.1
    · cases h
  unfold mkF at hF
  split at hF
  case isFalse => cases hF
  rename_i hl
  have hvl : vs.length = ns.length := by rw [Paired.length hP]; exact hl.1
  have hpl : ps.length = n0 := by rw [hR.len]; exact hl.2
  have kx : K.In s.heap :=
    e0.mod.kin.keeps fun b o e => (e0.bs b o e).1
  have lim : s.heap.NoLimit :=
    e0.mod.nolimit.keeps fun b o e => (e0.bs b o e).1
  refine codeAny_call_function hr.depth (kx _ _ lk)
    rfl S.co S.gen rfl (PySem.W.codeRec_of kx hcd) (hbind _ _ _ _ ?_)
  refine wpAny_newFunctionEnv_cells S.kind (fun y hy => ?_) fun env he s1 inC => ?_
  · rcases S.par y.1 (List.of_mem_zip (a := y.1) (b := y.2) hy).1 with q | q
    · exact .inl q
    · exact .inr ⟨q, PySem.W.cellsFrom_some _ _ _ (.inl q)⟩
  subst he
  refine ⟨lim.keeps inC.toInCall.keep, codeAny_func ?_⟩
  have I := inv_start (CX := CX0) (mg := mg) (base := base) (E := E0) S hr.hd e0 hvl hv inC
  -- the body, then the way out
  have fin : ∀ {σ' : St} {H' : Hp} {v : V} {u : Value} {s' : Shared}, L2.Inv (cxOf CX0 P w K mg base N x (defScope st) f cdv A outer s H E0) [] σ' H' s' → RelV v u → Q v H' → CE outer P w H s Q u s' :=
    fun {σ' H' v u s'} J rv q => ⟨v, H', J.os, J.bare, J.base, J.hok, rv, q⟩
  have R0 : Rel K hs ps (L2.start N vs) H ⟨xs.map some ++ List.replicate (N.length - ns.length) none, cs⟩ := by
    have := rel_start (N := N) hR hP
    rw [hl.1] at this
    exact this
  have go : ∃ o, body ⟨xs.map some ++ List.replicate (N.length - ns.length) none, cs⟩ = some o ∧ Post K hs ps H { nx := fun _ H' => Q .non H', rt := Q } o := by
    split at hF
    · rename_i r' c' eb
      cases hF
      refine ⟨_, eb, ?_⟩
      cases r with
      | dat d =>
        intro hs' ps' v H' L R d'
        obtain ⟨l, el⟩ := L.pre
        subst el
        rw [← hpl] at hQ
        exact hQ v H' L.stp (R.take L.hss hR.sub) (d'.up (fun a o e => by
          obtain ⟨n, q⟩ := hid_some e
          rw [hid_out fun m => n (L.hss a m)]; exact q))
      | new l0 =>
        intro hs' ps' p vs' H' L m n R e' d'
        obtain ⟨l, el⟩ := L.pre
        subst el
        rw [← hpl] at hQ
        have hsub : ∀ a ∈ p :: hs, a ∈ hs' := fun a ma => by
          rcases List.mem_cons.mp ma with z | z
          · rw [z]; exact m
          · exact L.hss a z
        exact hQ p vs' H' n L.stp (R.take hsub fun q mq => List.mem_cons_of_mem _ (hR.sub q mq)) e' (d'.up (fun a o e => by
          obtain ⟨n, q⟩ := hid_some e
          rw [hid_out fun m => n (hsub a m)]; exact q))
    · rename_i st' eb
      cases hF
      refine ⟨_, eb, fun hs' ps' σ' H' L R => ?_⟩
      obtain ⟨l, el⟩ := L.pre
      subst el
      rw [← hpl] at hQ
      exact hQ .non H' L.stp (R.hr.take L.hss hR.sub) .non
    · cases hF
  obtain ⟨o, eb, po⟩ := go
  have wb := hb cdv A outer s H E0 hg (hr.deeper _) _ o eb hs ps H (Nat.le_of_eq hpl) hR.trk hs ps (L2.start N vs) H lv_refl R0 _ po
  refine wpAny_mono (wb [] s1 (I.wish _)) (fun fl s' hq => ?_) fun e s' z => False.elim z
  have hq := hq.unwish
  cases fl with
  | ret u =>
    obtain ⟨v, σ', H', J, rv, q⟩ := hq
    exact fin J rv q
  | next =>
    obtain ⟨σ', H', J, q⟩ := hq
    exact fin (v := V.non) (u := Value.none) J rfl q
  | brk => exact hq.elim fun _ z => z.elim fun _ z => False.elim z.2
  | cont => exact hq.elim fun _ z => z.elim fun _ z => False.elim z.2
end

/-! ### calls -/
/-- a def that stands under the name x; its parameters may be given by position or, behind these, by name -/
structure At (P : Program) (w : World) (K : PySem.W.Frag) (mg : Str → Option Value) (base : Heap) (k : Nat) (x : Str) (ns : List Str) (F : FnS) : Prop where
  ex : ∃ (f : Addr) (fd : FuncData), mg x = some (.ref f) ∧ PySem.W.keepIn K (.ref f) = true ∧ FnG P w K mg base k f fd ns F ∧
    ∀ (s : Shared) (us : List Value), us.length = ns.length → ∀ (i : Nat), i ≤ ns.length → BindsTo s fd ⟨us.take i, (ns.drop i).zip (us.drop i)⟩ (ns.zip us)
theorem at_mk {P : Program} {w : World} {K : PySem.W.Frag} {mg : Str → Option Value} {base : Heap} {k : Nat} {x : Str} {st : Stmt} {f : Addr} {fd : FuncData} {ns : List Str} {F : FnS} (U : Fun K x x st f fd) (hm : mg x = some (.ref f)) (G : FnG P w K mg base k f fd ns F)
    (hb : ∀ (kV doc pm : Value) (an : Option Addr) (cdv ct : Value) (us : List Value), us.length = ns.length → ∀ (i : Nat), i ≤ ns.length → bindArgs (PySem.W.fnOf x x (defArgs st) (defBody st) (defScope st) .none kV doc pm an cdv ct) ⟨us.take i, (ns.drop i).zip (us.drop i)⟩ = pure (ns.zip us)) : At P w K mg base k x ns F := by
  obtain ⟨oc, od, kV, doc, pm, an, cdv, ct, osl, e, lk, hcd⟩ := U.ex
  refine ⟨f, fd, hm, U.kp, G, fun s us hl i hi => ?_⟩
  subst e
  exact .of_eq (hb kV doc pm an cdv ct us hl i hi)
def celsOk (k : Nat) : List SV → Bool
  | [] => true
  | .cel j :: r => decide (j = k) && celsOk k r
  | .dat _ :: r => celsOk k r
def celOf : List SV → Option Nat
  | [] => none
  | .cel k :: _ => some k
  | .dat _ :: r => celOf r
def norm : SV → SV
  | .cel _ => .cel 0
  | .dat d => .dat d
/-- the result, and the caller's lists behind it -/
def callF (F : FnS) (xs : List SV) (c : Cs) : Option (RV × Cs) := match celOf xs with
  | none => (F xs []).map fun p => (p.1, c)
  | some k => if celsOk k xs = true then (c[k]?).bind fun l => (F (xs.map norm) [l]).bind fun p => match p.2 with
      | [l'] => some (p.1, c.set k l')
      | _ => none
    else none
def fCall (F : FnS) (a : FA) : FE := fun st => (a st).bind fun p => (callF F p.1 p.2).bind fun q => match q.1 with
  | .dat d => some (d, q.2)
  | .new _ => none
def fCallL (F : FnS) (a : FA) : FL := fun st => (a st).bind fun p => (callF F p.1 p.2).bind fun q => match q.1 with
  | .new d => some (d, q.2)
  | .dat _ => none
/-- what the callee asks of its caller -/
def tG (K : PySem.W.Frag) (F : FnS) (ta : TA) : TE := fun σ H Q => ta σ H fun vs H1 => ∃ (hs ps : List Addr) (cs c : Cs) (xs : List SV) (r : RV), HR K hs ps H1 cs ∧ Paired (RelS K hs ps H1) vs xs ∧ F xs cs = some (r, c) ∧ RetOk K hs ps H1 c r Q
section
variable {X : Cx} {k : Nat} {x : Str} {ns : List Str} {F : FnS} {e : Expr} {es : List Expr} {p pos : Pos} {fa : FA}
theorem run_g {f : Addr} {fd : FuncData} {pins : List (Addr × Obj)} {σ : St} {H : Hp} {s : Shared} {Q : VK} {us : List Value} {vs : List V} {args : Args} {hs ps : List Addr} {cs c : Cs} {xs : List SV} {r : RV} (G : FnG X.prog X.w X.K X.mg X.base k f fd ns F) (hg : X.A.guards = some []) (hr : Room k X.A)
    (I : L2.Inv X pins σ H s) (hb : BindsTo s fd args (ns.zip us)) (hv : Vals vs us) (h1 : HR X.K hs ps H cs) (h2 : Paired (RelS X.K hs ps H) vs xs) (h3 : F xs cs = some (r, c)) (h4 : RetOk X.K hs ps H c r Q) : wpAny (model X.prog X.w) X.A (call (.ref f) args.pos args.kw) (EP X pins σ Q) X.xe s := by
  refine wpAny_call (codeAny_mono (G.run X.A X.stack s H args us vs hs ps cs c xs r Q hg hr I.env0 hb hv h1 h2 h3 h4) fun r s' hq => ?_)
  cases r with
  | error e => exact False.elim hq
  | ok fl =>
    cases fl with
    | ret u => exact I.after hq
    | _ => exact False.elim hq
theorem paired_none {K : PySem.W.Frag} {hs ps qs : List Addr} {H : Hp} : ∀ {vs : List V} {xs : List SV}, celOf xs = none → Paired (RelS K hs ps H) vs xs → Paired (RelS K hs qs H) vs xs
  | _, _, _, .nil => .nil
  | _, .dat d :: r, h, .cons a t => .cons a (paired_none (xs := r) h t)
  | _, .cel _ :: _, h, .cons _ _ => by cases h
theorem paired_norm {K : PySem.W.Frag} {hs ps : List Addr} {H : Hp} {k : Nat} {q : Addr} (hq : ps[k]? = some q) : ∀ {vs : List V} {xs : List SV}, celsOk k xs = true → Paired (RelS K hs ps H) vs xs → Paired (RelS K hs [q] H) vs (xs.map norm)
  | _, _, _, .nil => .nil
  | _, .dat d :: r, h, .cons a t => .cons a (paired_norm hq (xs := r) h t)
  | _, .cel j :: r, h, .cons a t => by
    have h' : (decide (j = k) && celsOk k r) = true := h
    rw [Bool.and_eq_true] at h'
    have e := of_decide_eq_true h'.1
    obtain ⟨p, h1, h2⟩ := a
    rw [e, hq] at h1
    cases h1
    exact .cons ⟨q, rfl, h2⟩ (paired_norm hq h'.2 t)
theorem paired_cel {K : PySem.W.Frag} {hs ps : List Addr} {H : Hp} {k : Nat} : ∀ {vs : List V} {xs : List SV}, celOf xs = some k → Paired (RelS K hs ps H) vs xs → ∃ q, ps[k]? = some q
  | _, _, h, .nil => by cases h
  | _, .dat d :: r, h, .cons a t => paired_cel (xs := r) h t
  | _, .cel j :: r, h, .cons a t => by
    cases h
    obtain ⟨p, h1, h2⟩ := a
    exact ⟨p, h1⟩
theorem HR.none0 {K : PySem.W.Frag} {hs ps : List Addr} {H : Hp} {c : Cs} (R : HR K hs ps H c) : HR K hs [] H [] :=
  ⟨fun p m => by simp at m, .nil, rfl, R.trk, fun i p xs h => by simp at h⟩
theorem HR.one {K : PySem.W.Frag} {hs ps : List Addr} {H : Hp} {c : Cs} {k : Nat} {q : Addr} {l : List PyData} (R : HR K hs ps H c) (hq : ps[k]? = some q) (hl : c[k]? = some l) : HR K hs [q] H [l] := by
  refine ⟨fun p m => by rw [List.mem_singleton.mp m]; exact R.sub q (List.mem_of_getElem? hq), by simp, rfl, R.trk, fun i p xs h1 h2 => ?_⟩
  cases i with
  | zero =>
    cases h1
    cases h2
    exact R.cel k q l hq hl
  | succ n => simp at h1
theorem HR.back {K : PySem.W.Frag} {hs hs' ps : List Addr} {H H' : Hp} {c : Cs} {k : Nat} {q : Addr} {l' : List PyData} (R : HR K hs ps H c) (hq : ps[k]? = some q) (s : Step [q] H H') (M : HR K hs' [q] H' [l']) (hh : ∀ a ∈ hs', a ∉ hs → H a = none) (hh2 : ∀ a ∈ hs, a ∈ hs') : HR K hs' ps H' (c.set k l') := by
  have hin : q ∈ hs := R.sub q (List.mem_of_getElem? hq)
  have sb : Sub (hid hs H) (hid hs' H') := s.hd (fun p m => by rw [List.mem_singleton.mp m]; exact hin) hh
  refine ⟨fun p m => hh2 p (R.sub p m), R.nd, by rw [List.length_set]; exact R.len, M.trk, fun i p xs h1 h2 => ?_⟩
  by_cases e : k = i
  · subst e
    rw [hq] at h1
    cases h1
    have hlc : k < c.length := by
      by_cases hl : k < c.length
      · exact hl
      · rw [List.getElem?_eq_none (by rw [List.length_set]; omega)] at h2; cases h2
    rw [List.getElem?_set_self hlc] at h2
    cases h2
    exact M.cel 0 q l' rfl rfl
  · rw [List.getElem?_set_ne e] at h2
    obtain ⟨vs, q1, q2⟩ := R.cel i p xs h1 h2
    have hne : p ≠ q := fun z => by
      subst z
      have a1 : k < ps.length := by
        by_cases hl : k < ps.length
        · exact hl
        · rw [List.getElem?_eq_none (by omega)] at hq; cases hq
      have a2 : i < ps.length := by
        by_cases hl : i < ps.length
        · exact hl
        · rw [List.getElem?_eq_none (by omega)] at h1; cases h1
      rw [List.getElem?_eq_getElem a1] at hq
      rw [List.getElem?_eq_getElem a2] at h1
      exact e ((List.getElem_inj R.nd).mp (by rw [Option.some.inj hq, Option.some.inj h1]))
    exact ⟨vs, s p _ (by simpa using hne) q1, q2.up sb⟩
theorem ed_G {K : PySem.W.Frag} {ta : TA} {st : Sta} {d : PyData} {c : Cs} (h : fCall F fa st = some (d, c)) (ha : ∀ st d c, fa st = some (d, c) → EDA K ta st d c) : ED K (tG K F ta) st d c := by
  obtain ⟨⟨xs, c1⟩, h1, h⟩ := bind_some h
  obtain ⟨⟨r, c2⟩, h2, h⟩ := bind_some h
  simp only at h
  split at h <;> cases h
  refine fun hs ps σ H R Q q => ha _ _ _ h1 hs ps σ H R _ fun vs H2 s2 R2 p2 => ?_
  unfold callF at h2
  split at h2
  · rename_i e0
    obtain ⟨⟨r3, c3⟩, h3, e3⟩ := map_some h2
    cases e3
    exact ⟨hs, [], [], c3, xs, _, R2.hr.none0, paired_none e0 p2, h3, fun v H3 s3 _ d3 => q v H3 (s2.trans (s3.mono (by simp))) (R2.step s3) d3⟩
  · rename_i k0 e0
    split at h2
    · rename_i ok
      obtain ⟨l, hl, h2⟩ := bind_some h2
      obtain ⟨⟨r3, c3⟩, h3, h2⟩ := bind_some h2
      simp only at h2
      split at h2 <;> cases h2
      rename_i l'
      obtain ⟨p, hp⟩ := paired_cel e0 p2
      refine ⟨hs, [p], [l], _, xs.map norm, _, R2.hr.one hp hl, paired_norm hp ok p2, h3, fun v H3 s3 M3 d3 => ?_⟩
      have hin : p ∈ hs := R2.hr.sub p (List.mem_of_getElem? hp)
      have s3' : Step ps H2 H3 := s3.mono fun a m => by rw [List.mem_singleton.mp m]; exact List.mem_of_getElem? hp
      exact q v H3 (s2.trans s3') (R2.slots (s3'.hd0 R2.hr.sub) (R2.hr.back hp s3 M3 (fun _ m n => absurd m n) fun _ m => m)) d3
    · cases h2
theorem edl_G {K : PySem.W.Frag} {ta : TA} {st : Sta} {d : List PyData} {c : Cs} (h : fCallL F fa st = some (d, c)) (ha : ∀ st d c, fa st = some (d, c) → EDA K ta st d c) : EDL K (tG K F ta) st d c := by
  obtain ⟨⟨xs, c1⟩, h1, h⟩ := bind_some h
  obtain ⟨⟨r, c2⟩, h2, h⟩ := bind_some h
  simp only at h
  split at h <;> cases h
  refine fun hs ps σ H R Q q => ha _ _ _ h1 hs ps σ H R _ fun vs H2 s2 R2 p2 => ?_
  unfold callF at h2
  split at h2
  · rename_i e0
    obtain ⟨⟨r3, c3⟩, h3, e3⟩ := map_some h2
    cases e3
    refine ⟨hs, [], [], c3, xs, _, R2.hr.none0, paired_none e0 p2, h3, fun p vs' H3 hp s3 M3 e3 d3 => ?_⟩
    have tr := M3.trk p List.mem_cons_self
    exact q p vs' H3 (DL.fresh_back s2 R2.hr hp) (s2.trans (s3.mono (by simp))) (R2.more s3 hp tr) e3 d3
  · rename_i k0 e0
    split at h2
    · rename_i ok
      obtain ⟨l, hl, h2⟩ := bind_some h2
      obtain ⟨⟨r3, c3⟩, h3, h2⟩ := bind_some h2
      simp only at h2
      split at h2 <;> cases h2
      rename_i l'
      obtain ⟨p, hp⟩ := paired_cel e0 p2
      refine ⟨hs, [p], [l], _, xs.map norm, _, R2.hr.one hp hl, paired_norm hp ok p2, h3, fun t vs' H3 ht s3 M3 e3 d3 => ?_⟩
      have s3' : Step ps H2 H3 := s3.mono fun a m => by rw [List.mem_singleton.mp m]; exact List.mem_of_getElem? hp
      exact q t vs' H3 (DL.fresh_back s2 R2.hr ht) (s2.trans s3') (R2.slots (s3'.hd R2.hr.sub (fresh_hid ht)) (R2.hr.back hp s3 M3 (fresh_hid ht) fun _ m => List.mem_cons_of_mem _ m)) e3 d3
    · cases h2
/-- the one argument a new list, which is the callee's own -/
def fCallFr (F : FnS) (l : FL) : FE := fun st => (l st).bind fun p => (F [.cel 0] [p.1]).bind fun q => match q.1 with
  | .dat d => some (d, p.2)
  | .new _ => none
theorem ed_Fr {K : PySem.W.Frag} {te : TE} {st : Sta} {d : PyData} {c : Cs} {fl : FL} (h : fCallFr F fl st = some (d, c)) (hl : ∀ st d c, fl st = some (d, c) → EDL K te st d c) : ED K (tG K F (tCons te tNil)) st d c := by
  obtain ⟨⟨xs, c1⟩, h1, h⟩ := bind_some h
  obtain ⟨⟨r, c2⟩, h2, h⟩ := bind_some h
  simp only at h
  split at h <;> cases h
  refine fun hs ps σ H R Q q => hl _ _ _ h1 hs ps σ H R _ fun p vs H2 hp s2 R2 e2 d2 => ?_
  have np : p ∉ ps := fun m => R.hr.trk p (R.hr.sub p m) hp
  refine ⟨p :: hs, [p], [xs], c2, [.cel 0], _, ⟨fun a m => by rw [List.mem_singleton.mp m]; exact List.mem_cons_self, by simp, rfl, R2.hr.trk, fun i a ys k1 k2 => ?_⟩, .cons ⟨p, rfl, rfl⟩ .nil, h2, fun v H3 s3 M3 d3 => ?_⟩
  · cases i with
    | zero =>
      cases k1
      cases k2
      exact ⟨vs, e2, d2⟩
    | succ n => simp at k1
  · have sb : Sub (hid (p :: hs) H2) (hid (p :: hs) H3) := s3.hd0 fun a m => by rw [List.mem_singleton.mp m]; exact List.mem_cons_self
    have R3 : Rel K (p :: hs) ps σ H3 ⟨st.ds, c⟩ := R2.slots sb ⟨R2.hr.sub, R2.hr.nd, R2.hr.len, M3.trk, fun i a ys k1 k2 => by
      obtain ⟨ws, q1, q2⟩ := R2.hr.cel i a ys k1 k2
      have hne : a ≠ p := fun z => np (z ▸ List.mem_of_getElem? k1)
      exact ⟨ws, s3 a _ (by simpa using hne) q1, q2.up sb⟩⟩
    refine q v H3 (fun a o n e => ?_) (R3.less (fun a m => List.mem_cons_of_mem _ m) R.hr.sub) (d3.up hid_cons_sub)
    have e4 := s2 a o n e
    exact s3 a o (fun m => by rw [List.mem_singleton.mp m] at e; rw [hp] at e; cases e) e4
theorem pe_callGA {t : TA} (C : At X.prog X.w X.K X.mg X.base k x ns F) (hgd : X.A.guards = some []) (hr : Room k X.A) (hg : Gl X x) (ha : PA X (e :: es) t) (hdb : (x == ("__debug__" : Str)) = false := by decide) (he : starEach (e :: es) X.env = (false, eval e X.env) :: starEach es X.env := by with_reducible first | exact sn_name | exact sn_const | exact sn_tup | exact sn_list | exact sn_bin | exact sn_un | exact sn_bool | exact sn_cmp | exact sn_call | exact sn_sub | exact sn_if | exact sn_attr | exact sn_lc) (hpl : (backTo pos (starEach es X.env)).any (·.1) = false := by rfl) :
    PE X (.Call (.Name x p) (e :: es) [] pos) (tG X.K F t) := by
  obtain ⟨f, fd, hm, hk, G, hb⟩ := C.ex
  refine ⟨fun pins s σ H Q I h => ?_⟩
  refine wpAny_Call_Name_kw (ld_glob I hg hm ?_ hdb)
  refine PySem.W.callWith_K (h₀ := X.base) I.ok.mod.kin hk (thn (ha.run pos pins s σ H _ I h) fun us s1 ⟨vs, H1, I1, r, hs, ps, cs, c, xs, r2, a1, a2, a3, a4⟩ => ⟨I1.kIn, ?_⟩) he hpl
  have hl : us.length = ns.length := by rw [← r.length, Paired.length a2]; exact G.len _ _ _ _ a3
  have b := hb s1 us hl ns.length (Nat.le_refl _)
  rw [← hl, List.take_length, List.drop_length, hl, List.drop_length, List.zip_nil_left] at b
  exact run_g (args := ⟨us, []⟩) G hgd hr I1 b r a1 a2 a3 a4
theorem re_callFr {fl : FL} (C : At X.prog X.w X.K X.mg X.base k x ns F) (hgd : X.A.guards = some []) (hr : Room k X.A) (hg : Gl X x) (hl : RL X e fl) (hdb : (x == ("__debug__" : Str)) = false := by decide) (he : starEach [e] X.env = (false, eval e X.env) :: starEach [] X.env := by with_reducible first | exact sn_name | exact sn_const | exact sn_tup | exact sn_list | exact sn_bin | exact sn_un | exact sn_bool | exact sn_cmp | exact sn_call | exact sn_sub | exact sn_if | exact sn_attr | exact sn_lc) (hpl : (backTo pos (starEach [] X.env)).any (·.1) = false := by rfl) :
    RE X (.Call (.Name x p) [e] [] pos) (fCallFr F fl) := .mk fun st d c h => RE.of (pe_callGA C hgd hr hg (pa_cons (pwE e) pa_nil he) hdb he hpl) (ed_Fr h hl)
theorem pe_callG (C : At X.prog X.w X.K X.mg X.base k x ns F) (hgd : X.A.guards = some []) (hr : Room k X.A) (hg : Gl X x) (hdb : (x == ("__debug__" : Str)) = false := by decide) (he : starEach (e :: es) X.env = (false, eval e X.env) :: starEach es X.env := by with_reducible first | exact sn_name | exact sn_const | exact sn_tup | exact sn_list | exact sn_bin | exact sn_un | exact sn_bool | exact sn_cmp | exact sn_call | exact sn_sub | exact sn_if | exact sn_attr | exact sn_lc) (hpl : (backTo pos (starEach es X.env)).any (·.1) = false := by rfl) :
    PE X (.Call (.Name x p) (e :: es) [] pos) (tG X.K F (wA X (e :: es))) := by
  obtain ⟨f, fd, hm, hk, G, hb⟩ := C.ex
  refine ⟨fun pins s σ H Q I h => ?_⟩
  refine wpAny_Call_Name_kw (ld_glob I hg hm ?_ hdb)
  refine PySem.W.callWith_K (h₀ := X.base) I.ok.mod.kin hk (thn ((pwA (e :: es)).run pos pins s σ H _ I h) fun us s1 ⟨vs, H1, I1, r, hs, ps, cs, c, xs, r2, a1, a2, a3, a4⟩ => ⟨I1.kIn, ?_⟩) he hpl
  have hl : us.length = ns.length := by rw [← r.length, Paired.length a2]; exact G.len _ _ _ _ a3
  have b := hb s1 us hl ns.length (Nat.le_refl _)
  rw [← hl, List.take_length, List.drop_length, hl, List.drop_length, List.zip_nil_left] at b
  exact run_g (args := ⟨us, []⟩) G hgd hr I1 b r a1 a2 a3 a4
theorem pe_callG0 (C : At X.prog X.w X.K X.mg X.base k x ns F) (hgd : X.A.guards = some []) (hr : Room k X.A) (hg : Gl X x) (hdb : (x == ("__debug__" : Str)) = false := by decide) : PE X (.Call (.Name x p) [] [] pos) (tG X.K F tNil) := by
  obtain ⟨f, fd, hm, hk, G, hb⟩ := C.ex
  refine ⟨fun pins s σ H Q I h => ?_⟩
  refine wpAny_Call_Name_kw (ld_glob I hg hm ?_ hdb)
  obtain ⟨hs, ps, cs, c, xs, r2, a1, a2, a3, a4⟩ := h
  have hl : ([] : List Value).length = ns.length := by rw [← G.len _ _ _ _ a3, ← Paired.length a2]; rfl
  have b := hb s [] hl ns.length (Nat.le_refl _)
  rw [List.take_nil, List.drop_nil, List.zip_nil_right, List.zip_nil_right] at b
  refine PySem.W.callWith_K0 I.kIn hk (run_g (args := ⟨[], []⟩) G hgd hr I ?_ .nil a1 a2 a3 a4)
  rw [List.zip_nil_right]
  exact b
theorem re_call (C : At X.prog X.w X.K X.mg X.base k x ns F) (hgd : X.A.guards = some []) (hr : Room k X.A) (hg : Gl X x) (ha : RA X (e :: es) fa) (hdb : (x == ("__debug__" : Str)) = false := by decide) (he : starEach (e :: es) X.env = (false, eval e X.env) :: starEach es X.env := by with_reducible first | exact sn_name | exact sn_const | exact sn_tup | exact sn_list | exact sn_bin | exact sn_un | exact sn_bool | exact sn_cmp | exact sn_call | exact sn_sub | exact sn_if | exact sn_attr | exact sn_lc) (hpl : (backTo pos (starEach es X.env)).any (·.1) = false := by rfl) :
    RE X (.Call (.Name x p) (e :: es) [] pos) (fCall F fa) := .mk fun st d c h => RE.of (pe_callG C hgd hr hg hdb he hpl) (ed_G h ha)
theorem rl_call (C : At X.prog X.w X.K X.mg X.base k x ns F) (hgd : X.A.guards = some []) (hr : Room k X.A) (hg : Gl X x) (ha : RA X (e :: es) fa) (hdb : (x == ("__debug__" : Str)) = false := by decide) (he : starEach (e :: es) X.env = (false, eval e X.env) :: starEach es X.env := by with_reducible first | exact sn_name | exact sn_const | exact sn_tup | exact sn_list | exact sn_bin | exact sn_un | exact sn_bool | exact sn_cmp | exact sn_call | exact sn_sub | exact sn_if | exact sn_attr | exact sn_lc) (hpl : (backTo pos (starEach es X.env)).any (·.1) = false := by rfl) :
    RL X (.Call (.Name x p) (e :: es) [] pos) (fCallL F fa) := .mk fun st d c h => RL.of (pe_callG C hgd hr hg hdb he hpl) (edl_G h ha)
theorem re_call0 (C : At X.prog X.w X.K X.mg X.base k x ns F) (hgd : X.A.guards = some []) (hr : Room k X.A) (hg : Gl X x) (hdb : (x == ("__debug__" : Str)) = false := by decide) : RE X (.Call (.Name x p) [] [] pos) (fCall F fNilA) := .mk fun st d c h =>
  RE.of (pe_callG0 C hgd hr hg hdb) (ed_G h fun st d c h => by cases h; exact eda_nil)
end
end DL


set_option Elab.async false
set_option linter.all false
set_option maxRecDepth 100000
set_option maxHeartbeats 4000000
namespace DL
open PySem PySem.Spec L2
open PyProof.Rows hiding St

/-! ### calls by name alone, the names in the parameters' order -/
def wK (X : Cx) (kws : List Keyword) : TA := fun σ H Q => ∀ pos pins s, L2.Inv X pins σ H s → wpAny (model X.prog X.w) X.A (evalAll ((backToKw pos (keywordEach kws X.env)).map (·.2))) (AP X pins σ Q) X.xe s
theorem pwK {X : Cx} (kws : List Keyword) : PK X kws (wK X kws) := ⟨fun pos pins s _ _ _ I h => h pos pins s I⟩
structure RK (X : Cx) (kws : List Keyword) (f : FA) : Prop where
  h : ∀ st d c, f st = some (d, c) → EDA X.K (wK X kws) st d c
instance (X : Cx) (kws : List Keyword) (f : FA) : CoeFun (RK X kws f) (fun _ => ∀ st d c, f st = some (d, c) → EDA X.K (wK X kws) st d c) := ⟨fun r => r.h⟩
section
variable {X : Cx} {k i : Nat} {x : Str} {ns : List Str} {F : FnS} {e : Expr} {es : List Expr} {p pos kpos : Pos} {fa fk : FA} {fe : FE} {kws : List Keyword} {nm : Option Str}
theorem RK.of {t : TA} {st : Sta} {d : List SV} {c : Cs} (p : PK X kws t) (k : EDA X.K t st d c) : EDA X.K (wK X kws) st d c := fun hs ps σ H R Q q pos pins s I => p.run pos pins s σ H Q I (k hs ps σ H R Q q)
theorem rk_nil : RK X [] fNilA := .mk fun st d c h => by
  cases h; exact RK.of pk_nil eda_nil
theorem rk_cons (ha : RE X e fe) (hr : RK X kws fa) : RK X (⟨nm, e, kpos⟩ :: kws) (fConsA fe fa) := .mk fun st d c h => by
  obtain ⟨⟨x, c1⟩, h1, h⟩ := bind_some h
  obtain ⟨⟨xs, c2⟩, h2, e⟩ := map_some h
  cases e
  exact RK.of (pk_cons (pwE _) (pwK kws)) (eda_cons (ha _ _ _ h1) (hr _ _ _ h2))
theorem pe_callGk (C : At X.prog X.w X.K X.mg X.base k x ns F) (hgd : X.A.guards = some []) (hr : Room k X.A) (hg : Gl X x) (hall : (backToKw pos (keywordEach kws X.env)).all (·.1.isSome) = true := by rfl) (hks : (backToKw pos (keywordEach kws X.env)).filterMap (·.1) = ns := by rfl) (hdb : (x == ("__debug__" : Str)) = false := by decide)
    (hpl : ((backTo pos (starEach [] X.env)).any (·.1) || (backToKw pos (keywordEach kws X.env)).any (·.1.isNone)) = false := by rfl) : PE X (.Call (.Name x p) [] kws pos) (tG X.K F (wK X kws)) := by
  obtain ⟨f, fd, hm, hk, G, hb⟩ := C.ex
  refine ⟨fun pins s σ H Q I h => ?_⟩
  refine wpAny_Call_Name_kw (ld_glob I hg hm ?_ hdb)
  refine PySem.W.callWith_KW0 (h₀ := X.base) I.ok.mod.kin hk hall (thn ((pwK kws).run pos pins s σ H _ I h) fun us s1 ⟨vs, H1, I1, r, hs, ps, cs, c, xs, r2, a1, a2, a3, a4⟩ => ⟨I1.kIn, ?_⟩) hpl
  have hl : us.length = ns.length := by rw [← r.length, Paired.length a2]; exact G.len _ _ _ _ a3
  have b := hb s1 us hl 0 (Nat.zero_le _)
  rw [List.take_zero, List.drop_zero, List.drop_zero] at b
  rw [hks]
  exact run_g (args := ⟨[], ns.zip us⟩) G hgd hr I1 b r a1 a2 a3 a4
theorem re_callk (C : At X.prog X.w X.K X.mg X.base k x ns F) (hgd : X.A.guards = some []) (hr : Room k X.A) (hg : Gl X x) (ha : RK X kws fa) (hall : (backToKw pos (keywordEach kws X.env)).all (·.1.isSome) = true := by rfl) (hks : (backToKw pos (keywordEach kws X.env)).filterMap (·.1) = ns := by rfl) (hdb : (x == ("__debug__" : Str)) = false := by decide)
    (hpl : ((backTo pos (starEach [] X.env)).any (·.1) || (backToKw pos (keywordEach kws X.env)).any (·.1.isNone)) = false := by rfl) : RE X (.Call (.Name x p) [] kws pos) (fCall F fa) := .mk fun st d c h => RE.of (pe_callGk C hgd hr hg hall hks hdb hpl) (ed_G h ha)
end

/-! ### the law -/
def Wants (s₁ : Shared) : Result → Shared → Prop := fun r s' => r = .ok (.ret (.bool true)) ∧ OldK s₁.heap s'.heap ∧ s'.os = s₁.os ∧ AllBare s'.gens
theorem law_G {P : Program} {w : World} {K : PySem.W.Frag} {mg mb : Str → Option Value} {k : Nat} {fa a : Addr} {fd : FuncData} {x : Str} {F : FnS} {s₁ : Shared} {vs : List Value} {ns : List Int}
    (KX : K.In s₁.heap) (g1 : s₁.heap.Ns mainGlobals mg) (g2 : s₁.heap.Ns builtinsNs mb) (g3 : ∀ x : Str, x ≠ "__name__" → mb x = bootBuiltins x) (lim : s₁.heap.NoLimit) (gens : s₁.gens = #[])
    (ho : s₁.heap.get? a = some { cls := .type "list", data := .seq vs.toArray }) (hi : IntsAre vs ns) (hl : ns.length ≤ sizeLine) (hr : Room k callerA)
    (G : ∀ base : Heap, K.In base → base.Ns mainGlobals mg → FnG P w K mg base k fa fd [x] F) (bind : ∀ (s : Shared) (u : Value), BindsTo s fd ⟨[u], []⟩ [(x, u)])
    (T : ∃ c, F [.dat (.list (ns.map PyData.int))] [] = some (.dat (.bool true), c)) : codeAny (model P w) callerA (.call (.ref fa) ⟨[.ref a], []⟩) (Wants s₁) s₁ := by
  have rv := vals_ints hi
  have one : ∀ H : Hp, L2.Only H → SqL K H a (ns.map V.int) → HOk P w H s₁.heap → (∀ b, H b ≠ none → b = a) → (∀ o, K.lookup a = some o → H a = none) → codeAny (model P w) callerA (.call (.ref fa) ⟨[.ref a], []⟩) (Wants s₁) s₁ := by
    intro H only sq ok hA hK
    have free : ∀ {b : Addr} {o : Obj} {es : Array DictEntry} {ep : Nat}, s₁.heap.get? b = some o → o.data = .dict es ep → H b = none := by
      intro b o es ep e d
      cases q : H b with
      | none => rfl
      | some u =>
        have z := hA b (by rw [q]; simp)
        subst z
        rw [ho] at e
        cases e
        cases (show Data.seq vs.toArray _ = Data.dict es ep from d)
    have ns' : ∀ {b : Addr} {m : Str → Option Value}, s₁.heap.Ns b m → (hidT s₁.heap H).Ns b m := by
      rintro b m ⟨o, es, ep, e, d, r⟩
      exact ⟨o, es, ep, hidT_get e (free e d), d, r⟩
    have kb : K.In (hidT s₁.heap H) := by
      intro b o e
      refine hidT_get (KX b o e) ?_
      cases q : H b with
      | none => rfl
      | some u =>
        have z := hA b (by rw [q]; simp)
        subst z
        rw [hK o e] at q; cases q
    obtain ⟨mc, l1, l2⟩ := lim
    have e0 : Env0 P w K mg (hidT s₁.heap H) callerA [] s₁ H :=
      ⟨rfl, ⟨kb, ns' g1, ⟨mb, ns' g2, g3⟩, ⟨mc, ns' l1, l2⟩⟩, fun b o e => of_hidT e,
        Nat.le_of_eq (hidT_size _ _), trivial, fun b hb => (by cases hb), ok, .of_eq gens⟩
    obtain ⟨c, T⟩ := T
    have R0 : HR K [] [] H [] := ⟨fun p m => (by cases m), .nil, rfl, fun a m => (by cases m), fun i p xs h => (by simp at h)⟩
    have d0 : Paired (RelS K [] [] H) [.ref a] [.dat (.list (ns.map PyData.int))] :=
      .cons (.lst (sqL_mono (fun b o e => by rw [hid_out (by simp)]; exact e) sq) (DpAll.ints ns)) .nil
    refine codeAny_mono ((G _ kb (ns' g1)).run callerA [] s₁ H ⟨[.ref a], []⟩ [.ref a] [.ref a] [] [] [] c _ _ (fun v _ => v = .bl true) rfl hr e0 (bind s₁ (.ref a)) (.cons rfl .nil) R0 d0 T fun v H2 _ _ d => dp_bool d) fun r s' h => ?_
    cases r with
    | error e => exact False.elim h
    | ok fl =>
      cases fl with
      | ret u =>
        obtain ⟨v, H', os, bare, un, ok', rr, q⟩ := h
        have q' : v = .bl true := q
        subst q'
        cases (show u = Value.bool true from rr)
        refine ⟨rfl, OldK.of_keep fun b o e => ?_, os, bare⟩
        cases q : H b with
        | none => exact un.keep b o e q (fun z => by cases z) (fun z => by cases z)
        | some u =>
          rcases only b with z | ⟨ob, xs, z⟩
          · rw [q] at z; cases z
          · obtain ⟨e1, _⟩ := ok b _ z
            obtain ⟨e2, _⟩ := ok' b _ (un.frzs b ob _ z)
            rw [e] at e1
            cases e1
            exact e2
      | _ => exact False.elim h
  cases hk : K.lookup a with
  | some o =>
    have e := KX a o hk
    rw [ho] at e
    cases e
    refine one (fun _ => none) (fun _ => .inl rfl) (.inr ⟨_, vs.toArray, _, hk, rfl, rfl, rfl, ?_, by simpa using rv⟩) (fun b u z => by cases z) (fun b z => absurd rfl z) fun _ _ => rfl
    rw [List.size_toArray, hi.length]; exact hl
  | none =>
    let Hs : Hp := fun b => if b = a then some (.frz { cls := .type "list", data := .seq vs.toArray } (.lst (ns.map V.int))) else none
    have at_a : Hs a = some (.frz { cls := .type "list", data := .seq vs.toArray } (.lst (ns.map V.int))) := if_pos rfl
    have off : ∀ b, b ≠ a → Hs b = none := fun b n => if_neg n
    refine one Hs (fun b => ?_) (.inl (.inr ⟨_, at_a⟩)) (fun b u z => ?_) (fun b z => ?_) fun o e => by rw [hk] at e; cases e
    · by_cases n : b = a
      · subst n; exact .inr ⟨_, _, at_a⟩
      · exact .inl (off b n)
    · by_cases n : b = a
      · subst n
        rw [at_a] at z
        cases z
        exact ⟨ho, by rw [List.length_map]; exact hl, vs, _, rv, ho⟩
      · rw [off b n] at z; cases z
    · by_cases n : b = a
      · exact n
      · exact absurd (off b n) z
/-- the goal that the head leaves -/
theorem walk_G {l : PySem.W.OpenLaw} {n k : Nat} {q : Program} {loose : List Str} {XP : (Str → Option Value) → Heap → Prop} {YP : World → Heap → Prop} {d : DefRec} {K : Params → PySem.W.Frag} {F : FnS} {x : Str}
    (hn : l.most = some n) (hn2 : n ≤ sizeLine) (hdf : d.params.defaults = []) (hr : Room k callerA) (hY : ∀ (w : World) (h : Heap), YP w h → (K w.params).In h)
    (G : ∀ (w : World) (mg : Str → Option Value) (fa : Addr) (h : Heap), (K w.params).In h → h.Ns mainGlobals mg → mg d.name = some (.ref fa) →
      ∃ fd : FuncData, (∀ (s : Shared) (u : Value), BindsTo s fd ⟨[u], []⟩ [(x, u)]) ∧ ∀ base : Heap, (K w.params).In base → base.Ns mainGlobals mg → FnG l.prog w (K w.params) mg base k fa fd [x] F)
    (T : ∀ ns : List Int, ns.length ≤ n → ∃ c, F [.dat (.list (ns.map PyData.int))] [] = some (.dat (.bool true), c)) : PySem.W.WalkO q loose XP YP l.row.toRowW d [] (fun f vs => PySem.call f vs) := by
  refine Att.attach_call hn hdf fun w s₀ s₁ mg mb fa o pm cd doc a vs ns Gr Y _ _ _ hmg hobj hints hlen gens => ?_
  have KX := hY w _ Y
  obtain ⟨fd, hb, hF⟩ := G w mg fa _ KX Gr.T.g hmg
  exact law_G KX Gr.T.g Gr.T.b Gr.T.builtins Gr.T.nolimit gens hobj hints (Nat.le_trans hlen hn2) hr hF hb (T ns hlen)
end DL


set_option Elab.async false
set_option linter.all false
set_option maxRecDepth 100000
set_option maxHeartbeats 4000000
namespace DL
open PySem PySem.Spec L2
open PyProof.Rows hiding St

theorem hu64 {k : Nat} {A : Around} (hr : Room k A) : A.units + 64 < cLine := by have := hr.un; omega
section
variable {X : Cx} {a b : Expr} {pos : Pos} {fa fb : FE}
theorem v (i : Nat) {x : Str} (hN : X.N[i]? = some x := by rfl) (hv : Vis X.env.scope x := by first | exact Or.inl rfl | exact Or.inr (Or.inl rfl) | exact Or.inr (Or.inr rfl)) (hd : (x == ("__debug__" : Str)) = false := by decide) (hcd : (x == ("__classdict__" : Str)) = false := by decide) : RE X (.Name x pos) (fVar i) := re_var hN hv hd hcd
/-- + of ints, lists, tuples -/
def gPlus : PyData → PyData → Option PyData
  | .int i, .int j => some (.int (i + j))
  | .list xs, .list ys => if xs.length + ys.length ≤ LIM then some (.list (xs ++ ys)) else none
  | .tuple xs, .tuple ys => if xs.length + ys.length ≤ LIM then some (.tuple (xs ++ ys)) else none
  | _, _ => none
theorem re_plus (ha : RE X a fa) (hb : RE X b fb) : RE X (.BinOp a .Add b pos) (fOp gPlus fa fb) := re_op (OpR.or (OpR.or op_add op_catS) op_catA) (fun x y z h => by
  cases x <;> cases y <;> first | (cases h; done) | skip
  · cases h
    exact fun hs H v w t d1 d2 Q q => .inl (.inl (rd_int0 (fun _ => .int _) hs H v w t d1 d2 Q q))
  · rename_i xs ys
    unfold gPlus at h
    simp only at h
    split at h <;> cases h
    rename_i hl
    intro hs H v w ht h1 h2 Q q
    obtain ⟨p, vs, rfl, hp, da⟩ := dp_list h1
    obtain ⟨p2, ws, rfl, hp2, db⟩ := dp_list h2
    refine .inl (.inr ⟨p, p2, vs, ws, rfl, rfl, sqL_mono hid_sub hp, sqL_mono hid_sub hp2, lim_ok (by rw [da.len, db.len]; exact hl), fun t ht' => ?_⟩)
    have s3 : Step [] H (upd H t (.lst (vs ++ ws))) := Step.new ht'
    have hph : t ∉ hs := fun m => ht t m ht'
    exact q _ _ s3 (.lst (.inl (.inl (by rw [hid_out hph]; exact upd_same))) ((da.app db).up (s3.hd0 (by simp))))
  · rename_i xs ys
    unfold gPlus at h
    simp only at h
    split at h <;> cases h
    rename_i hl
    intro hs H v w ht h1 h2 Q q
    obtain ⟨p, vs, rfl, hp, da⟩ := dp_tuple h1
    obtain ⟨p2, ws, rfl, hp2, db⟩ := dp_tuple h2
    refine .inr ⟨p, p2, vs, ws, rfl, rfl, sqT_mono hid_sub hp, sqT_mono hid_sub hp2, lim_ok (by rw [da.len, db.len]; exact hl), fun e => ?_, fun _ e => ?_, fun _ _ t ht' => ?_⟩
    · subst e
      cases da
      exact q _ H (Step.refl H) h2
    · subst e
      cases db
      rw [List.append_nil] at q
      exact q _ H (Step.refl H) h1
    · have s3 : Step [] H (upd H t (.tup (vs ++ ws))) := Step.new ht'
      have hph : t ∉ hs := fun m => ht t m ht'
      exact q _ _ s3 (.tup (.inl (.inl (by rw [hid_out hph]; exact upd_same))) ((da.app db).up (s3.hd0 (by simp))))) ha hb
end
section
variable {X : Cx} {K : PySem.W.Frag} {a b e : Expr} {p pos : Pos} {fa fb fe : FE}
theorem rt_cmp {op : CmpOp} {r : R2} {g : PyData → PyData → Option PyData} (ho : OpR X (compareOp op) r) (hr : ∀ x y z, g x y = some z → RD X.K r x y z) (ha : RE X a fa) (hb : RE X b fb) (hm : behindInMarks op b = false) : RT X (.Compare a [op] [b] pos) (fTru (fOp g fa fb)) := .mk fun st d c h => by
  obtain ⟨⟨w, c0⟩, h0, h⟩ := bind_some h
  obtain ⟨⟨x, c1⟩, h1, h0⟩ := bind_some h0
  obtain ⟨⟨y, c2⟩, h2, h0⟩ := bind_some h0
  obtain ⟨z, h3, e⟩ := map_some h0
  cases e
  simp only at h
  split at h <;> cases h
  exact RT.of (pt_cmpR ho (pwE a) (pwE b) hm) fun hs ps σ H R Q q => ed_op (ha _ _ _ h1) (hb _ _ _ h2) (hr _ _ _ h3) hs ps σ H R _ fun v H2 s2 R2 d2 => ⟨_, dp_bool d2, q H2 s2 R2⟩
theorem rd_eq {x y z : PyData} (h : gEq x y = some z) : RD K (rEqD K) x y z := by
  unfold gEq at h
  split at h <;> cases h
  rename_i hs
  exact fun _ H v w _ h1 h2 Q q => ⟨x, y, h1.up hid_sub, h2.up hid_sub, hs.1, hs.2, q _ H (Step.refl H) (.bl _)⟩
theorem rd_ne {x y z : PyData} (h : gNe x y = some z) : RD K (rNeD K) x y z := by
  unfold gNe at h
  split at h <;> cases h
  rename_i hs
  exact fun _ H v w _ h1 h2 Q q => ⟨x, y, h1.up hid_sub, h2.up hid_sub, hs.1, hs.2, q _ H (Step.refl H) (.bl _)⟩
theorem rd_isN {x y z : PyData} (h : gIsN x y = some z) : RD K (fun x y H Q => y = .non ∧ Q (.bl (decide (x = .non))) H) x y z := by
  unfold gIsN at h
  split at h <;> cases h
  rename_i hs
  cases isNone_eq hs
  exact fun _ H v w _ h1 h2 Q q => ⟨dp_non h2, q _ H (Step.refl H) (by rw [isNone_dp h1]; exact .bl _)⟩
theorem rd_notN {x y z : PyData} (h : gNotN x y = some z) : RD K (fun x y H Q => y = .non ∧ Q (.bl (!decide (x = .non))) H) x y z := by
  unfold gNotN at h
  split at h <;> cases h
  rename_i hs
  cases isNone_eq hs
  exact fun _ H v w _ h1 h2 Q q => ⟨dp_non h2, q _ H (Step.refl H) (by rw [isNone_dp h1]; exact .bl _)⟩
theorem rt_lt (ha : RE X a fa) (hb : RE X b fb) : RT X (.Compare a [.Lt] [b] pos) (fTru (fOp (gCmp fun i j => decide (i < j)) fa fb)) := rt_cmp op_lt (fun _ _ _ h => rd_cmp h) ha hb (nomark _)
theorem rt_le (ha : RE X a fa) (hb : RE X b fb) : RT X (.Compare a [.LtE] [b] pos) (fTru (fOp (gCmp fun i j => decide (i ≤ j)) fa fb)) := rt_cmp op_le (fun _ _ _ h => rd_cmp h) ha hb (nomark _)
theorem rt_gt (ha : RE X a fa) (hb : RE X b fb) : RT X (.Compare a [.Gt] [b] pos) (fTru (fOp (gCmp fun i j => decide (j < i)) fa fb)) := rt_cmp op_gt (fun _ _ _ h => rd_cmp h) ha hb (nomark _)
theorem rt_ge (ha : RE X a fa) (hb : RE X b fb) : RT X (.Compare a [.GtE] [b] pos) (fTru (fOp (gCmp fun i j => decide (j ≤ i)) fa fb)) := rt_cmp op_ge (fun _ _ _ h => rd_cmp h) ha hb (nomark _)
theorem rt_eq (hu : X.A.units + 64 < cLine) (ha : RE X a fa) (hb : RE X b fb) : RT X (.Compare a [.Eq] [b] pos) (fTru (fOp gEq fa fb)) := rt_cmp (op_eqD hu) (fun _ _ _ h => rd_eq h) ha hb (nomark _)
theorem rt_ne (hu : X.A.units + 64 < cLine) (ha : RE X a fa) (hb : RE X b fb) : RT X (.Compare a [.NotEq] [b] pos) (fTru (fOp gNe fa fb)) := rt_cmp (op_neD hu) (fun _ _ _ h => rd_ne h) ha hb (nomark _)
theorem rt_isN (ha : RE X a fa) (hb : RE X b fb) (hm : behindInMarks .Is b = false := by exact nomark _) : RT X (.Compare a [.Is] [b] pos) (fTru (fOp gIsN fa fb)) := rt_cmp op_isN (fun _ _ _ h => rd_isN h) ha hb hm
theorem rt_notN (ha : RE X a fa) (hb : RE X b fb) (hm : behindInMarks .IsNot b = false := by exact nomark _) : RT X (.Compare a [.IsNot] [b] pos) (fTru (fOp gNotN fa fb)) := rt_cmp op_notN (fun _ _ _ h => rd_notN h) ha hb hm
theorem rt_tyIs {y : Str} {T : String} {p1 p2 p3 : Pos} (hg : Gl X "type") (hm : X.mg "type" = none) (hgT : Gl X y) (hmT : X.mg y = none) (hvT : bootBuiltins y = some (.type T)) (ha : RE X a fe) (he : starEach [a] X.env = (false, eval a X.env) :: starEach [] X.env := by with_reducible first | exact sn_name | exact sn_const | exact sn_tup | exact sn_list | exact sn_bin | exact sn_un | exact sn_bool | exact sn_cmp | exact sn_call | exact sn_sub | exact sn_if | exact sn_attr | exact sn_lc)
    (hnT : y ≠ "__name__" := by decide) (hdT : (y == ("__debug__" : Str)) = false := by decide) :
    RT X (.Compare (.Call (.Name "type" p1) [a] [] p2) [.Is] [.Name y p3] pos) (fTru (fUn (gTyIs T) fe)) := .mk fun st d c h => by
  obtain ⟨⟨w, c0⟩, h0, h⟩ := bind_some h
  obtain ⟨⟨z, c1⟩, h1, h0⟩ := bind_some h0
  obtain ⟨w, h2, e⟩ := map_some h0
  cases e
  cases h2
  cases h
  refine RT.of (pt_cmpR op_isTyB (pe_callTy call_typeD hg hm (by decide +kernel) (pa_cons (pwE a) pa_nil he) (he := he)) (pe_bltn (v := .ty T) hgT hmT hvT rfl hnT hdT) (nomark _)) fun hs ps σ H R Q q => ha _ _ _ h1 hs ps σ H R _ fun v H2 s2 R2 d2 => ?_
  exact ⟨v, z, rfl, d2.up hid_sub, _, _, rfl, rfl, _, rfl, q H2 s2 R2⟩
end
/-- a tuple that stands in the written part -/
theorem dp_kt {K : PySem.W.Frag} {H : Hp} {a : Addr} {dd : Option Addr} {its : Array Value} {n : Nat} {sl : Array (Option Value)} {vs : List V} {ds : List PyData} (h : K.lookup a = some ⟨.type "tuple", dd, .seq its n, sl⟩) (hz : its.size ≤ sizeLine) (r : Vals vs its.toList) (d : ∀ H, DpAll K H vs ds) : Dp K H (.ref a) (.tuple ds) :=
  .tup (.inr ⟨_, its, n, h, rfl, rfl, hz, r⟩) (d H)
end DL


set_option Elab.async false
set_option linter.all false
set_option maxRecDepth 100000
set_option maxHeartbeats 400000
/-! zip of a list and a tuple, either way round -/
namespace DL
open PySem PySem.Spec L2
open PyProof.Rows hiding St

/-- the items of a list (true) or of a tuple (false) -/
def Sq : Bool → PySem.W.Frag → Hp → Addr → List V → Prop
  | true => SqL
  | false => SqT
def OnHeap : Bool → Heap → Addr → Array Value → Prop
  | true => Heap.IsList
  | false => Heap.IsTuple
def ItOn : Bool → Heap → Addr → Addr → Nat → Prop
  | true => Heap.IsListIter
  | false => Heap.IsTupleIter
def itObj (l : Bool) (a : Addr) : Obj := { cls := .type (if l then "list_iterator" else "tuple_iterator"), data := .fields #[.ref a, .int 0 0] }
theorem itObj_on {l : Bool} {h : Heap} {c a : Addr} (e : h.get? c = some (itObj l a)) : ItOn l h c a 0 := by
  cases l
  · exact ⟨_, e, rfl, rfl⟩
  · exact ⟨_, e, rfl, rfl⟩
theorem ItOn.up {l : Bool} {h h' : Heap} {c a : Addr} {i : Nat} (e : ItOn l h c a i) (k : ∀ o, h.get? c = some o → h'.get? c = some o) : ItOn l h' c a i := by
  cases l
  · exact Heap.IsTupleIter.at e k
  · exact Heap.IsListIter.at e k
theorem ItOn.obj {l : Bool} {h : Heap} {c a : Addr} {i : Nat} (e : ItOn l h c a i) : ∃ o, h.get? c = some o ∧ ∀ v, o.data ≠ .cell v := by
  cases l
  · obtain ⟨o, h1, _, h2⟩ := e
    exact ⟨o, h1, fun v q => by rw [h2] at q; cases q⟩
  · obtain ⟨o, h1, _, h2⟩ := e
    exact ⟨o, h1, fun v q => by rw [h2] at q; cases q⟩
theorem OnHeap.lt {l : Bool} {h : Heap} {a : Addr} {its : Array Value} (e : OnHeap l h a its) : a < h.objs.size := by
  cases l
  · obtain ⟨o, h1, _⟩ := e
    exact Heap.lt_size h1
  · obtain ⟨o, h1, _⟩ := e
    exact Heap.lt_size h1
theorem itObj_begins (l : Bool) (a : Addr) (its : Array Value) : Begins (.ref a) (itObj l a) fun h => OnHeap l h a its := by
  cases l
  · exact begins_tuple a its
  · exact begins_list a its
theorem sq_draws (l : Bool) {P : Program} {w : World} {A : Around} (hh : A.handled = none) {c a : Addr} (ne : a ≠ c) (its : Array Value) : Draws P w A c [c, a] its.size (fun i v => its[i]? = some v) (fun i h => ItOn l h c a i ∧ OnHeap l h a its) := by
  cases l
  · exact Draws.tuple hh c a ne its
  · exact Draws.list hh c a ne its
section
variable {X : Cx} {pins : List (Addr × Obj)} {σ : L2.St} {H : Hp} {s : Shared} {a : Addr} {xs ys : List V} {l : Bool}
theorem Sq.heap (I : Inv X pins σ H s) (h : Sq l X.K H a xs) : ∃ its : List Value, Vals xs its ∧ OnHeap l s.heap a its.toArray := by
  cases l
  · obtain ⟨its, r, p, _⟩ := I.tuple h
    exact ⟨its, r, p⟩
  · obtain ⟨its, r, p, _⟩ := I.list h
    exact ⟨its, r, p.isList⟩
theorem Sq.one (I : Inv X pins σ H s) (h : Sq l X.K H a xs) (g : Sq l X.K H a ys) : xs = ys := by
  cases l
  · exact I.tuple_inj h g
  · exact I.list_inj h g
end
theorem Sq.gd {l : Bool} {K : PySem.W.Frag} {hs : List Addr} {H2 H3 : Hp} {p : Addr} {xs : List V} (g : GD hs H2 H3) (h : Sq l K (hid hs H2) p xs) : Sq l K H3 p xs := by
  cases l
  · exact sqT_gd g h
  · exact sqL_gd g h
/-- the pairs of two rows, as long as both last -/
def ItMx (l m : Bool) (K : PySem.W.Frag) (a b : Addr) : It where
  go i H := ∃ xs ys : List V, ∃ x y : V, Sq l K H a xs ∧ Sq m K H b ys ∧ xs[i]? = some x ∧ ys[i]? = some y
  yld i H v H' := ∃ (T : Addr) (x y : V), v = .ref T ∧ H T = none ∧ H' = upd H T (.tup [x, y]) ∧ (∀ xs, Sq l K H a xs → xs[i]? = some x) ∧ ∀ ys, Sq m K H b ys → ys[i]? = some y
  stop i H := ∃ xs ys : List V, Sq l K H a xs ∧ Sq m K H b ys ∧ i = min xs.length ys.length
theorem walk_mx {l m : Bool} {K : PySem.W.Frag} {a b : Addr} {xs ys : List V} {n : Nat} (hn : n = min xs.length ys.length) : Walk (ItMx l m K a b) n (fun H => Sq l K H a xs ∧ Sq m K H b ys) (YPair (fun i => xs[i]?) (fun i => ys[i]?)) := by
  subst hn
  constructor
  · intro i H hi ⟨q1, q2⟩
    exact ⟨xs, ys, _, _, q1, q2, List.getElem?_eq_getElem (by omega), List.getElem?_eq_getElem (by omega)⟩
  · intro H ⟨q1, q2⟩
    exact ⟨xs, ys, q1, q2, rfl⟩
  · rintro i H v H' _ ⟨q1, q2⟩ ⟨T, x, y, h1, h2, h3, h4, h5⟩
    exact ⟨T, x, y, h1, h2, h3, h4 _ q1, h5 _ q2⟩
/-- the five cells of a running zip -/
structure Five (z t u c d a b : Addr) : Prop where
  tz : t ≠ z
  uz : u ≠ z
  cz : c ≠ z
  dz : d ≠ z
  tu : t ≠ u
  tc : t ≠ c
  td : t ≠ d
  uc : u ≠ c
  ud : u ≠ d
  cd : c ≠ d
  az : a ≠ z
  au : a ≠ u
  ac : a ≠ c
  ad : a ≠ d
  bz : b ≠ z
  bu : b ≠ u
  bc : b ≠ c
  bd : b ≠ d
theorem Five.sep {z t u c d a b : Addr} (D : Five z t u c d a b) : ZipSep2 z t u c d [c, a] [d, b] where
  TIz := D.tz
  TOz := D.uz
  TITO := D.tu
  TIi1 := D.tc
  mem1 := by simp
  zf1 := by simp [D.cz.symm, D.az.symm]
  Tf1 := by simp [D.uc, D.au.symm]
  TIi2 := D.td
  mem2 := by simp
  zf2 := by simp [D.dz.symm, D.bz.symm]
  Tf2 := by simp [D.ud, D.bu.symm]
  sep1_2 := by simp [D.cd, D.bc.symm]
  sep2_1 := by simp [D.cd.symm, D.ad.symm]
theorem five_new {n a b : Nat} (ha : a < n) (hb : b < n) : Five (n + 4) (n + 2) (n + 3) n (n + 1) a b := by
  constructor <;> (intro e; have e2 : @Eq Nat _ _ := e; omega)
def MxAt (l m : Bool) (a b z t u c d : Addr) (i : Nat) (h : Heap) : Prop := IsZip h z t u .none ∧ IsTupOf2 h t (.ref c) (.ref d) ∧ (∃ x y, IsTupOf2 h u x y) ∧ ItOn l h c a i ∧ ItOn m h d b i
theorem in5 {x z t u c d : Addr} (h : x ∈ [z, t, u, c, d]) : x = z ∨ x = t ∨ x = u ∨ x = c ∨ x = d := by simpa using h
theorem not5 {x z t u c d : Addr} (h : x ∉ [z, t, u, c, d]) : x ≠ z ∧ x ≠ u ∧ x ≠ c ∧ x ≠ d := by
  refine ⟨?_, ?_, ?_, ?_⟩ <;> intro e <;> exact h (by simp [e])
theorem turn_mx {P : Program} {w : World} {K : PySem.W.Frag} {es : List Expr} {kk : Nat} {tp : Pos} {l m : Bool} {a b z t u c d : Addr} (D : Five z t u c d a b) :
    Turn P w K (.Tuple es kk tp) (ItMx l m K a b) [z, t, u, c, d] z (MxAt l m a b z t u c d) := by
  constructor
  case mem => simp
  case obj =>
    rintro i h ⟨g1, g2, ⟨x, y, g3⟩, g4, g5⟩ b hb
    rcases in5 hb with e | e | e | e | e <;> subst e
    · exact ⟨_, g1, fun v q => nomatch q⟩
    · exact ⟨_, g2, fun v q => nomatch q⟩
    · exact ⟨_, g3, fun v q => nomatch q⟩
    · exact g4.obj
    · exact g5.obj
  case keep =>
    rintro i h h' ⟨g1, g2, ⟨x, y, g3⟩, g4, g5⟩ k
    exact ⟨k _ (by simp) _ g1, k _ (by simp) _ g2, ⟨x, y, k _ (by simp) _ g3⟩, g4.up (k _ (by simp)), g5.up (k _ (by simp))⟩
  case item =>
    intro X hP hw hK hc i pins s σ H E I hf st hg
    subst hP hw hK
    obtain ⟨g1, g2, ⟨x0, y0, g3⟩, g4, g5⟩ := st
    obtain ⟨xs, ys, x, y, q1, q2, hx, hy⟩ := hg
    obtain ⟨us, r1, p1⟩ := q1.heap I
    obtain ⟨vs, r2, p2⟩ := q2.heap I
    obtain ⟨x1, e1, w1⟩ := r1.get hx
    obtain ⟨y1, e2, w2⟩ := r2.get hy
    have hh : X.A.in1.handled = none := I.ok.hd hc
    have zl : z < s.heap.objs.size := Heap.lt_size g1
    have l1 : i < us.toArray.size := by simpa using (List.getElem?_eq_some_iff.mp e1).1
    have l2 : i < vs.toArray.size := by simpa using (List.getElem?_eq_some_iff.mp e2).1
    refine wpAny_pyNext_zipD2_item D.sep (sq_draws l hh D.ac _) (sq_draws m hh D.bd _) g1 g2 g3 ⟨g4, p1⟩ ⟨g5, p2⟩ l1 l2 fun x2 y2 h' tk f1 f2 n1 n2 n3 n4 n5 n6 n7 => ?_
    have f1' : us[i]? = some x2 := by simpa using f1
    have f2' : vs[i]? = some y2 := by simpa using f2
    rw [e1] at f1'
    rw [e2] at f2'
    cases f1'
    cases f2'
    refine ⟨_, rfl, wpAny_letOwnedTupleGo_zip (s := { s with heap := h', toks := tk }) n1 fun h2 m1 sb => ?_⟩
    replace sb : Heap.SameBut z h' h2 := sb
    have up : ∀ c o, c ≠ z → h'.get? c = some o → h2.get? c = some o := fun c o ne e => (sb.2 c ne).trans e
    have mT := up _ _ (Nat.ne_of_gt zl) n5
    have new : ObjOk X.prog X.w (upd H s.heap.objs.size (.tup [x, y])) h2 s.heap.objs.size (.tup [x, y]) :=
      ⟨by show 2 ≤ sizeLine; decide, [x1, y1], .cons w1 (.cons w2 .nil), ⟨_, mT, rfl, _, rfl⟩⟩
    have I1 := I.turnedNew (t' := tk) (ch := [z, t, u, c, d]) (fun b o hb q => up _ _ (not5 hb).1 (n7 b o (not5 hb).1 (not5 hb).2.1 (not5 hb).2.2.1 (not5 hb).2.2.2 q)) hf (Nat.le_refl _) new
    refine ⟨.ref s.heap.objs.size, _, I1, rfl, ⟨_, x, y, rfl, I.hok.fresh (Nat.le_refl _), rfl, fun zs hz => ?_, fun zs hz => ?_⟩, ⟨m1, up _ _ D.tz (n7 _ _ D.tz D.tu D.tc D.td g2), ⟨x1, y1, up _ _ D.uz n2⟩, n3.1.up fun o => up _ _ D.cz, n4.1.up fun o => up _ _ D.dz⟩, fun b hb => ?_⟩
    · rw [Sq.one I hz q1]; exact hx
    · rw [Sq.one I hz q2]; exact hy
    · have lt : b < s.heap.objs.size := by
        rcases in5 hb with e | e | e | e | e <;> subst e
        · exact zl
        · exact Heap.lt_size g2
        · exact Heap.lt_size g3
        · obtain ⟨o, e, _⟩ := g4.obj
          exact Heap.lt_size e
        · obtain ⟨o, e, _⟩ := g5.obj
          exact Heap.lt_size e
      rw [upd_ne (Nat.ne_of_lt lt)]
      exact (hf b hb).1
  case done =>
    intro X hP hw hK hc i pins s σ H E I hf st hg
    subst hP hw hK
    obtain ⟨g1, g2, ⟨x0, y0, g3⟩, g4, g5⟩ := st
    obtain ⟨xs, ys, q1, q2, he⟩ := hg
    obtain ⟨us, r1, p1⟩ := q1.heap I
    obtain ⟨vs, r2, p2⟩ := q2.heap I
    have e1 := r1.length
    have e2 := r2.length
    have hh : X.A.in1.handled = none := I.ok.hd hc
    exact wpAny_pyNext_zipD2_end D.sep (sq_draws l hh D.ac us.toArray) (sq_draws m hh D.bd vs.toArray) g1 g2 g3 ⟨g4, p1⟩ ⟨g5, p2⟩ (by simp only [List.size_toArray]; omega) (by simp only [List.size_toArray]; omega) (by simp only [List.size_toArray]; omega)
      fun h' tk k => ⟨rfl, I.turnedL (t' := tk) (ch := [z, t, u, c, d]) (fun b o hb q => k b o (not5 hb).1 (not5 hb).2.1 (not5 hb).2.2.1 (not5 hb).2.2.2 q) hf⟩
  case self => exact fun A i s Q E st h => wpAny_pyIter_zip st.1 h
def iMx (l m : Bool) (K : PySem.W.Frag) (ta : TA) : TI := fun σ H R => ta σ H fun vs H1 => ∃ (a b : Addr) (xs ys : List V), vs = [.ref a, .ref b] ∧ Sq l K H1 a xs ∧ Sq m K H1 b ys ∧ R (ItMx l m K a b) H1
theorem pi_mx {X : Cx} {l m : Bool} {e e2 : Expr} {ta : TA} {p pos tp : Pos} {es : List Expr} {kk : Nat} (hg : Gl X "zip") (hm : X.mg "zip" = none) (ha : PA X [e, e2] ta)
    (hs : starEach [e, e2] X.env = (false, eval e X.env) :: starEach [e2] X.env) (hpl : (backTo pos (starEach [e2] X.env)).any (·.1) = false) :
    PI X (.Tuple es kk tp) (.Call (.Name "zip" p) [e, e2] [] pos) (iMx l m X.K ta) := by
  constructor
  intro pins s σ H R I h
  refine Call_ (ld_blt I hg hm PyProof.Rows.boot_zip (PyProof.Rows.callWith_type1 (thn (ha.run pos pins s σ H _ I h) ?_) hs hpl))
  rintro us s1 ⟨vs, H1, I1, r, a, b, xs, ys, rfl, q1, q2, q⟩
  obtain ⟨u1, us1, rfl, w1, r1⟩ : ∃ u us', us = u :: us' ∧ RelV (.ref a) u ∧ Vals [.ref b] us' := by cases r with | cons x y => exact ⟨_, _, rfl, x, y⟩
  obtain ⟨u2, rfl, w2⟩ := vals1 r1
  cases w1
  cases w2
  obtain ⟨as, _, p1⟩ := q1.heap I1
  obtain ⟨bs, _, p2⟩ := q2.heap I1
  refine zip_begins2 (itObj_begins l a _) (itObj_begins m b _) p1 p2 fun h' g1 g2 g3 g4 g5 _ k => wpAny_pyIter_zip g1 ?_
  refine ⟨s1.heap.objs.size + 4, [s1.heap.objs.size + 4, s1.heap.objs.size + 2, s1.heap.objs.size + 3, s1.heap.objs.size, s1.heap.objs.size + 1], _, _, H1, rfl, I1.kept (t' := s1.toks) k, turn_mx (five_new p1.lt p2.lt), ⟨g1, g2, ⟨_, _, g3⟩, itObj_on g4, itObj_on g5⟩, fun c hc => ?_, q⟩
  have le : s1.heap.objs.size ≤ c := by
    rcases in5 hc with e | e | e | e | e <;> rw [e] <;> omega
  exact I1.fpOk le (I1.hok.fresh le)
end DL


set_option Elab.async false
set_option linter.all false
set_option maxRecDepth 100000
set_option maxHeartbeats 400000
namespace DL
open PySem PySem.Spec L2
open PyProof.Rows hiding St

/-! ### zip and enumerate -/
def enumD : Nat → List PyData → List PyData
  | _, [] => []
  | k, x :: xs => .tuple [.int (k : Nat), x] :: enumD (k + 1) xs
def zipD : List PyData → List PyData → List PyData
  | x :: xs, y :: ys => .tuple [x, y] :: zipD xs ys
  | _, _ => []
theorem enumD_len : ∀ (k : Nat) (xs : List PyData), (enumD k xs).length = xs.length
  | _, [] => rfl
  | k, x :: xs => by simp only [enumD, List.length_cons, enumD_len (k + 1) xs]
theorem enumD_get : ∀ (k : Nat) (xs : List PyData) (i : Nat) (x : PyData), xs[i]? = some x → (enumD k xs)[i]? = some (.tuple [.int ((k + i : Nat) : Int), x])
  | _, [], i, x, h => by simp at h
  | k, y :: ys, 0, x, h => by
    have e : y = x := by simpa using h
    subst e
    rfl
  | k, y :: ys, i + 1, x, h => by
    have h' : ys[i]? = some x := by simpa using h
    have := enumD_get (k + 1) ys i x h'
    show (enumD (k + 1) ys)[i]? = _
    rw [this, show k + 1 + i = k + (i + 1) from by omega]
theorem zipD_len : ∀ (xs ys : List PyData), (zipD xs ys).length = min xs.length ys.length
  | [], ys => by simp [zipD]
  | x :: xs, [] => by simp [zipD]
  | x :: xs, y :: ys => by simp only [zipD, List.length_cons, zipD_len xs ys]; omega
theorem zipD_get : ∀ (xs ys : List PyData) (i : Nat) (x y : PyData), xs[i]? = some x → ys[i]? = some y → (zipD xs ys)[i]? = some (.tuple [x, y])
  | [], ys, i, x, y, h, _ => by simp at h
  | a :: xs, [], i, x, y, _, h => by simp at h
  | a :: xs, b :: ys, 0, x, y, h, g => by
    have e : a = x := by simpa using h
    have e2 : b = y := by simpa using g
    subst e e2
    rfl
  | a :: xs, b :: ys, i + 1, x, y, h, g => zipD_get xs ys i x y (by simpa using h) (by simpa using g)
/-- a pair that is made on the way -/
theorem pair_new {K : PySem.W.Frag} {hs hs' : List Addr} {H2 H3 : Hp} {T : Addr} {x y : V} {d e : PyData} (g : GD hs H2 H3) (ht : H3 T = none) (h1 : ∀ a ∈ hs', a ∉ hs → H2 a = none) (h2 : ∀ a ∈ hs', H3 a ≠ none) (dx : Dp K (hid hs H2) x d) (dy : Dp K (hid hs H2) y e) :
    Dp K (hid hs' (upd H3 T (.tup [x, y]))) (.ref T) (.tuple [d, e]) := by
  have n : T ∉ hs' := fun m => h2 T m ht
  have sb : Sub (hid hs H2) (hid hs' (upd H3 T (.tup [x, y]))) := fun a o q => by
    have q' := g.sub (hs' := hs') h1 a o q
    obtain ⟨m, q2⟩ := hid_some q'
    rw [hid_out m, upd_ne (fun z => by rw [z, ht] at q2; cases q2)]
    exact q2
  exact .tup (.inl (.inl (by rw [hid_out n]; exact upd_same))) (.cons (dx.up sb) (.cons (dy.up sb) .nil))
theorem walk_dE {K : PySem.W.Frag} {hs : List Addr} {H2 : Hp} {p : Addr} {ws : List V} {ds : List PyData} (hp : SqL K (hid hs H2) p ws) (da : DpAll K (hid hs H2) ws ds) : Walk (Ite K p) (enumD 0 ds).length (GD hs H2) (YD K hs H2 (enumD 0 ds)) := by
  rw [enumD_len, ← da.len]
  refine (walk_enum (K := K) (a := p) (xs := ws)).mono (fun H3 g => sqL_gd g hp) fun i H3 x H' hi g y => ?_
  obtain ⟨T, u, v, rfl, ht, rfl, h1, h2⟩ := y
  cases h1
  obtain ⟨d, h3, h4⟩ := da.getV h2
  refine ⟨Step.new ht, _, enumD_get 0 ds i d h3, fun hs' q1 q2 => ?_⟩
  rw [Nat.zero_add]
  exact pair_new g ht q1 q2 (.int _) h4
theorem walk_dZ {K : PySem.W.Frag} {hs : List Addr} {H2 : Hp} {p q : Addr} {ws us : List V} {ds es : List PyData} (hp : SqL K (hid hs H2) p ws) (hq : SqL K (hid hs H2) q us) (da : DpAll K (hid hs H2) ws ds) (db : DpAll K (hid hs H2) us es) : Walk (Itz K p q) (zipD ds es).length (GD hs H2) (YD K hs H2 (zipD ds es)) := by
  refine (walk_zip (K := K) (a := p) (b := q) (xs := ws) (ys := us) (by rw [zipD_len, da.len, db.len])).mono (fun H3 g => ⟨sqL_gd g hp, sqL_gd g hq⟩) fun i H3 x H' hi g y => ?_
  obtain ⟨T, u, v, rfl, ht, rfl, h1, h2⟩ := y
  obtain ⟨d, h3, h4⟩ := da.getV h1
  obtain ⟨e, h5, h6⟩ := db.getV h2
  exact ⟨Step.new ht, _, zipD_get ds es i d e h3 h5, fun hs' q1 q2 => pair_new g ht q1 q2 h4 h6⟩
section
variable {K : PySem.W.Frag} {a b : Addr} {xs ys : List V}
theorem walk_zipTT {n : Nat} (hn : n = min xs.length ys.length) : Walk (RZ.ItzT K a b) n (fun H => SqT K H a xs ∧ SqT K H b ys) (YPair (fun i => xs[i]?) (fun i => ys[i]?)) := by
  subst hn
  refine ⟨fun i _ hi q => ?_, fun _ q => ⟨xs, ys, q.1, q.2, by omega⟩, fun i H v H' _ q y => ?_⟩
  · have h1 : i < xs.length := by omega
    have h2 : i < ys.length := by omega
    exact ⟨xs, ys, xs[i], ys[i], q.1, q.2, by simp [h1], by simp [h2]⟩
  · obtain ⟨T, x, z, h1, h2, h3, h4, h5⟩ := y
    exact ⟨T, x, z, h1, h2, h3, h4 xs q.1, h5 ys q.2⟩
end
theorem walk_dZT {K : PySem.W.Frag} {hs : List Addr} {H2 : Hp} {p q : Addr} {ws us : List V} {ds es : List PyData} (hp : SqT K (hid hs H2) p ws) (hq : SqT K (hid hs H2) q us) (da : DpAll K (hid hs H2) ws ds) (db : DpAll K (hid hs H2) us es) : Walk (RZ.ItzT K p q) (zipD ds es).length (GD hs H2) (YD K hs H2 (zipD ds es)) := by
  refine (walk_zipTT (K := K) (a := p) (b := q) (xs := ws) (ys := us) (by rw [zipD_len, da.len, db.len])).mono (fun H3 g => ⟨sqT_gd g hp, sqT_gd g hq⟩) fun i H3 x H' hi g y => ?_
  obtain ⟨T, u, v, rfl, ht, rfl, h1, h2⟩ := y
  obtain ⟨d, h3, h4⟩ := da.getV h1
  obtain ⟨e, h5, h6⟩ := db.getV h2
  exact ⟨Step.new ht, _, zipD_get ds es i d e h3 h5, fun hs' q1 q2 => pair_new g ht q1 q2 h4 h6⟩
theorem walk_dM {l m : Bool} {K : PySem.W.Frag} {hs : List Addr} {H2 : Hp} {p q : Addr} {ws us : List V} {ds es : List PyData} (hp : Sq l K (hid hs H2) p ws) (hq : Sq m K (hid hs H2) q us) (da : DpAll K (hid hs H2) ws ds) (db : DpAll K (hid hs H2) us es) : Walk (ItMx l m K p q) (zipD ds es).length (GD hs H2) (YD K hs H2 (zipD ds es)) := by
  refine (walk_mx (l := l) (m := m) (K := K) (a := p) (b := q) (xs := ws) (ys := us) (by rw [zipD_len, da.len, db.len])).mono (fun H3 g => ⟨Sq.gd g hp, Sq.gd g hq⟩) fun i H3 x H' hi g y => ?_
  obtain ⟨T, u, v, rfl, ht, rfl, h1, h2⟩ := y
  obtain ⟨d, h3, h4⟩ := da.getV h1
  obtain ⟨e, h5, h6⟩ := db.getV h2
  exact ⟨Step.new ht, _, zipD_get ds es i d e h3 h5, fun hs' q1 q2 => pair_new g ht q1 q2 h4 h6⟩
section
variable {X : Cx} {a b e : Expr} {fa : FA} {p pos : Pos}
def fEnum (a : FA) : FL := fun st => (a st).bind fun q => match q.1 with
  | [.dat (.list xs)] => some (enumD 0 xs, q.2)
  | _ => none
def fZip (a : FA) : FL := fun st => (a st).bind fun q => match q.1 with
  | [.dat (.list xs), .dat (.list ys)] => some (zipD xs ys, q.2)
  | [.dat (.tuple xs), .dat (.tuple ys)] => some (zipD xs ys, q.2)
  | [.dat (.list xs), .dat (.tuple ys)] => some (zipD xs ys, q.2)
  | [.dat (.tuple xs), .dat (.list ys)] => some (zipD xs ys, q.2)
  | _ => none
theorem ri_enum {elts : List Expr} {kk : Nat} {tpos : Pos} (hg : Gl X "enumerate") (hm : X.mg "enumerate" = none) (ha : RA X [a] fa) (hs : starEach [a] X.env = [(false, eval a X.env)] := by rfl) : RI X (.Tuple elts kk tpos) (.Call (.Name "enumerate" p) [a] [] pos) (fEnum fa) := .mk fun st xs c h => by
  obtain ⟨⟨y, c1⟩, h1, h⟩ := bind_some h
  simp only at h
  split at h <;> cases h
  exact RI.of (pi_enum hg hm (pwA [a]) hs) fun hs ps σ H R Q q => ha _ _ _ h1 hs ps σ H R _ fun vs H2 s2 R2 p2 => by
    obtain ⟨v, rfl, d⟩ := dpa1 (paired_dat (ds := [_]) p2)
    obtain ⟨p, ws, rfl, hp, da⟩ := dp_list d
    exact ⟨p, ws, rfl, sqL_mono hid_sub hp, q _ H2 s2 R2 (walk_dE hp da)⟩
theorem ri_zip {elts : List Expr} {kk : Nat} {tpos : Pos} (hg : Gl X "zip") (hm : X.mg "zip" = none) (ha : RA X [a, b] fa) (hs : starEach [a, b] X.env = (false, eval a X.env) :: starEach [b] X.env := by rfl)
    (hpl : (backTo pos (starEach [b] X.env)).any (·.1) = false := by rfl) : RI X (.Tuple elts kk tpos) (.Call (.Name "zip" p) [a, b] [] pos) (fZip fa) := .mk fun st xs c h => by
  obtain ⟨⟨y, c1⟩, h1, h⟩ := bind_some h
  simp only at h
  split at h
  · cases h
    exact RI.of (RZ.pi_zipA hg hm (pwA [a, b]) hs hpl) fun hs ps σ H R Q q => ha _ _ _ h1 hs ps σ H R _ fun vs H2 s2 R2 p2 => by
      obtain ⟨v, w, rfl, d, d2⟩ := dpa2 (paired_dat (ds := [_, _]) p2)
      obtain ⟨p, ws, rfl, hp, da⟩ := dp_list d
      obtain ⟨p', us, rfl, hp', db⟩ := dp_list d2
      exact ⟨p, p', ws, us, rfl, .inl ⟨sqL_mono hid_sub hp, sqL_mono hid_sub hp', q _ H2 s2 R2 (walk_dZ hp hp' da db)⟩⟩
  · cases h
    exact RI.of (RZ.pi_zipA hg hm (pwA [a, b]) hs hpl) fun hs ps σ H R Q q => ha _ _ _ h1 hs ps σ H R _ fun vs H2 s2 R2 p2 => by
      obtain ⟨v, w, rfl, d, d2⟩ := dpa2 (paired_dat (ds := [_, _]) p2)
      obtain ⟨p, ws, rfl, hp, da⟩ := dp_tuple d
      obtain ⟨p', us, rfl, hp', db⟩ := dp_tuple d2
      exact ⟨p, p', ws, us, rfl, .inr ⟨sqT_mono hid_sub hp, sqT_mono hid_sub hp', q _ H2 s2 R2 (walk_dZT hp hp' da db)⟩⟩
  · cases h
    exact RI.of (pi_mx (l := true) (m := false) hg hm (pwA [a, b]) hs hpl) fun hs ps σ H R Q q => ha _ _ _ h1 hs ps σ H R _ fun vs H2 s2 R2 p2 => by
      obtain ⟨v, w, rfl, d, d2⟩ := dpa2 (paired_dat (ds := [_, _]) p2)
      obtain ⟨p, ws, rfl, hp, da⟩ := dp_list d
      obtain ⟨p', us, rfl, hp', db⟩ := dp_tuple d2
      exact ⟨p, p', ws, us, rfl, sqL_mono hid_sub hp, sqT_mono hid_sub hp', q _ H2 s2 R2 (walk_dM (l := true) (m := false) hp hp' da db)⟩
  · cases h
    exact RI.of (pi_mx (l := false) (m := true) hg hm (pwA [a, b]) hs hpl) fun hs ps σ H R Q q => ha _ _ _ h1 hs ps σ H R _ fun vs H2 s2 R2 p2 => by
      obtain ⟨v, w, rfl, d, d2⟩ := dpa2 (paired_dat (ds := [_, _]) p2)
      obtain ⟨p, ws, rfl, hp, da⟩ := dp_tuple d
      obtain ⟨p', us, rfl, hp', db⟩ := dp_list d2
      exact ⟨p, p', ws, us, rfl, sqT_mono hid_sub hp, sqL_mono hid_sub hp', q _ H2 s2 R2 (walk_dM (l := false) (m := true) hp hp' da db)⟩
  · cases h
def gSum : List PyData → Option PyData
  | [.list xs] => (intsOf xs).map fun ns => .int ns.sum
  | _ => none
theorem re_sum (hc : X.calm = true) (hg : Gl X "sum") (hm : X.mg "sum" = none) (ha : RA X [a] fa) (he : starEach [a] X.env = (false, eval a X.env) :: starEach [] X.env := by with_reducible first | exact sn_name | exact sn_call | exact sn_lc) : RE X (.Call (.Name "sum" p) [a] [] pos) (fBi gSum fa) :=
  re_bi (cr_sum hc) (fun xs z h => by
    unfold gSum at h
    split at h
    · obtain ⟨bs, h1, rfl⟩ := map_some h
      intro hs H vs _ d Q q
      obtain ⟨v, rfl, d1⟩ := dpa1 d
      obtain ⟨p, ws, rfl, hp, da⟩ := dp_list d1
      rw [ints_dp h1 da] at hp
      exact ⟨p, bs, rfl, sqL_mono hid_sub hp, q _ H (Step.refl H) (.int _)⟩
    · cases h) hg hm (by decide +kernel) ha (he := he)
end

/-! ### calls by name, the names in another order -/
def perm {α : Type} (is : List Nat) (l : List α) : List α := is.filterMap fun i => l[i]?
theorem Paired.get? {α β : Type} {R : α → β → Prop} : ∀ {xs : List α} {ys : List β} {i : Nat}, Paired R xs ys → (∃ x y, xs[i]? = some x ∧ ys[i]? = some y ∧ R x y) ∨ (xs[i]? = none ∧ ys[i]? = none)
  | _, _, i, .nil => .inr ⟨by simp, by simp⟩
  | _, _, 0, .cons a t => .inl ⟨_, _, rfl, rfl, a⟩
  | _, _, i + 1, .cons a t => by simpa using Paired.get? (i := i) t
theorem paired_perm {α β : Type} {R : α → β → Prop} {xs : List α} {ys : List β} (h : Paired R xs ys) : ∀ is : List Nat, Paired R (perm is xs) (perm is ys)
  | [] => .nil
  | i :: is => by
    have t := paired_perm h is
    unfold perm at t ⊢
    rcases Paired.get? (i := i) h with ⟨x, y, h1, h2, h3⟩ | ⟨h1, h2⟩
    · rw [List.filterMap_cons_some h1, List.filterMap_cons_some h2]
      exact .cons h3 t
    · rw [List.filterMap_cons_none h1, List.filterMap_cons_none h2]
      exact t
def fPerm (is : List Nat) (a : FA) : FA := fun st => (a st).bind fun p => if p.1.length = is.length then some (perm is p.1, p.2) else none
def tP (is : List Nat) (ta : TA) : TA := fun σ H Q => ta σ H fun vs H1 => vs.length = is.length ∧ Q (perm is vs) H1
theorem eda_perm {K : PySem.W.Frag} {is : List Nat} {ta : TA} {fa : FA} {st : Sta} {d : List SV} {c : Cs} (h : fPerm is fa st = some (d, c)) (ha : ∀ st d c, fa st = some (d, c) → EDA K ta st d c) : EDA K (tP is ta) st d c := by
  obtain ⟨⟨xs, c1⟩, h1, h⟩ := bind_some h
  simp only at h
  split at h <;> cases h
  rename_i hl
  refine fun hs ps σ H R Q q => ha _ _ _ h1 hs ps σ H R _ fun vs H2 s2 R2 p2 => ⟨by rw [Paired.length p2]; exact hl, q _ H2 s2 R2 (paired_perm p2 is)⟩
structure AtP (P : Program) (w : World) (K : PySem.W.Frag) (mg : Str → Option Value) (base : Heap) (k : Nat) (x : Str) (ns ks : List Str) (is : List Nat) (F : FnS) : Prop where
  ex : ∃ (f : Addr) (fd : FuncData), mg x = some (.ref f) ∧ PySem.W.keepIn K (.ref f) = true ∧ FnG P w K mg base k f fd ns F ∧
    ∀ (s : Shared) (us : List Value), us.length = is.length → BindsTo s fd ⟨[], ks.zip us⟩ (ns.zip (perm is us))
theorem atp_mk {P : Program} {w : World} {K : PySem.W.Frag} {mg : Str → Option Value} {base : Heap} {k : Nat} {x : Str} {st : Stmt} {f : Addr} {fd : FuncData} {ns ks : List Str} {is : List Nat} {F : FnS} (U : Fun K x x st f fd) (hm : mg x = some (.ref f)) (G : FnG P w K mg base k f fd ns F)
    (hb : ∀ (kV doc pm : Value) (an : Option Addr) (cdv ct : Value) (us : List Value), us.length = is.length → bindArgs (PySem.W.fnOf x x (defArgs st) (defBody st) (defScope st) .none kV doc pm an cdv ct) ⟨[], ks.zip us⟩ = pure (ns.zip (perm is us))) : AtP P w K mg base k x ns ks is F := by
  obtain ⟨oc, od, kV, doc, pm, an, cdv, ct, osl, e, lk, hcd⟩ := U.ex
  refine ⟨f, fd, hm, U.kp, G, fun s us hl => ?_⟩
  subst e
  exact .of_eq (hb kV doc pm an cdv ct us hl)
section
variable {X : Cx} {k : Nat} {x : Str} {ns ks : List Str} {is : List Nat} {F : FnS} {e : Expr} {es : List Expr} {p pos kpos : Pos} {fa fk : FA} {fe : FE} {kws : List Keyword} {nm : Option Str}
theorem pe_callGkp (C : AtP X.prog X.w X.K X.mg X.base k x ns ks is F) (hgd : X.A.guards = some []) (hr : Room k X.A) (hg : Gl X x) (hall : (backToKw pos (keywordEach kws X.env)).all (·.1.isSome) = true := by rfl) (hks : (backToKw pos (keywordEach kws X.env)).filterMap (·.1) = ks := by rfl) (hdb : (x == ("__debug__" : Str)) = false := by decide)
    (hpl : ((backTo pos (starEach [] X.env)).any (·.1) || (backToKw pos (keywordEach kws X.env)).any (·.1.isNone)) = false := by rfl) : PE X (.Call (.Name x p) [] kws pos) (tG X.K F (tP is (wK X kws))) := by
  obtain ⟨f, fd, hm, hk, G, hb⟩ := C.ex
  refine ⟨fun pins s σ H Q I h => ?_⟩
  refine wpAny_Call_Name_kw (ld_glob I hg hm ?_ hdb)
  refine PySem.W.callWith_KW0 (h₀ := X.base) I.ok.mod.kin hk hall (thn ((pwK kws).run pos pins s σ H _ I h) fun us s1 ⟨vs, H1, I1, r, hl, hs, ps, cs, c, xs, r2, a1, a2, a3, a4⟩ => ⟨I1.kIn, ?_⟩) hpl
  have b := hb s1 us (by rw [← r.length]; exact hl)
  rw [hks]
  exact run_g (args := ⟨[], ks.zip us⟩) G hgd hr I1 b (paired_perm r is) a1 a2 a3 a4
theorem re_callkp (C : AtP X.prog X.w X.K X.mg X.base k x ns ks is F) (hgd : X.A.guards = some []) (hr : Room k X.A) (hg : Gl X x) (ha : RK X kws fa) (hall : (backToKw pos (keywordEach kws X.env)).all (·.1.isSome) = true := by rfl) (hks : (backToKw pos (keywordEach kws X.env)).filterMap (·.1) = ks := by rfl) (hdb : (x == ("__debug__" : Str)) = false := by decide)
    (hpl : ((backTo pos (starEach [] X.env)).any (·.1) || (backToKw pos (keywordEach kws X.env)).any (·.1.isNone)) = false := by rfl) : RE X (.Call (.Name x p) [] kws pos) (fCall F (fPerm is fa)) := .mk fun st d c h => RE.of (pe_callGkp C hgd hr hg hall hks hdb hpl) (ed_G h fun st d c h => eda_perm h ha.h)
end

/-! ### append -/
/-- a list of one's own is changed -/
theorem Rel.putL {K : PySem.W.Frag} {hs ps : List Addr} {σ : St} {H : Hp} {st : Sta} (R : Rel K hs ps σ H st) {c : Nat} {p : Addr} {xs xs' : List PyData} {vs vs' : List V} (hp : ps[c]? = some p) (hx : st.cs[c]? = some xs) (hv : H p = some (.lst vs)) (da : DpAll K (hid hs H) vs' xs') :
    Step ps H (upd H p (.lst vs')) ∧ Rel K hs ps σ (upd H p (.lst vs')) ⟨st.ds, st.cs.set c xs'⟩ := by
  have hin := R.hr.sub p (List.mem_of_getElem? hp)
  have sb : Sub (hid hs H) (hid hs (upd H p (.lst vs'))) := fun a o e => by
    obtain ⟨n, k⟩ := hid_some e
    rw [hid_out n, upd_ne (fun z => n (by rw [z]; exact hin))]; exact k
  refine ⟨fun a o n e => by rw [upd_ne (fun z => n (by rw [z]; exact List.mem_of_getElem? hp))]; exact e, R.slots sb ⟨R.hr.sub, R.hr.nd, by simp [R.hr.len], fun a ma => ?_, fun i q ys k1 k2 => ?_⟩⟩
  · by_cases e : a = p
    · rw [e, upd_same]; simp
    · rw [upd_ne e]; exact R.hr.trk a ma
  · by_cases e : c = i
    · subst e
      rw [hp] at k1
      cases k1
      have hl : c < st.cs.length := by
        by_cases hl : c < st.cs.length
        · exact hl
        · rw [List.getElem?_eq_none (by omega)] at hx; cases hx
      rw [List.getElem?_set_self hl] at k2
      cases k2
      exact ⟨_, upd_same, da.up sb⟩
    · rw [List.getElem?_set_ne e] at k2
      obtain ⟨ws, q1, q2⟩ := R.hr.cel i q ys k1 k2
      have hne : q ≠ p := fun z => by
        subst z
        have h1 : c < ps.length := by
          by_cases hl : c < ps.length
          · exact hl
          · rw [List.getElem?_eq_none (by omega)] at hp; cases hp
        have h2 : i < ps.length := by
          by_cases hl : i < ps.length
          · exact hl
          · rw [List.getElem?_eq_none (by omega)] at k1; cases k1
        exact e ((List.getElem_inj R.hr.nd).mp (by
          rw [List.getElem?_eq_getElem h1] at hp
          rw [List.getElem?_eq_getElem h2] at k1
          rw [Option.some.inj hp, Option.some.inj k1]))
      exact ⟨ws, by rw [upd_ne hne]; exact q1, q2.up sb⟩
/-- x.append(e), x a list of one's own -/
def fApp (i : Nat) (e : FE) : FS := fun st => (e st).bind fun p => match st.ds[i]? with
  | some (some (.cel c)) => (p.2[c]?).bind fun xs => if xs.length < 100000 then some (.nx ⟨st.ds, p.2.set c (xs ++ [p.1])⟩) else none
  | _ => none
section
variable {X : Cx} {n0 : Nat} {e : Expr} {fe : FE} {p pos : Pos}
theorem rs_app {i : Nat} {x : Str} {p1 apos cpos : Pos} (hN : X.N[i]? = some x) (hv : Vis X.env.scope x) (h : RE X e fe) (hd : (x == ("__debug__" : Str)) = false := by decide) (hcd : (x == ("__classdict__" : Str)) = false := by decide)
    (hbase : attributeBase (.Name x p1) "append" X.env (eval (.Name x p1) X.env) = eval (.Name x p1) X.env := by rfl)
    (hfew : ((backTo cpos (starEach (e :: []) X.env)).all (fun x => !x.1) && (backToKw cpos (keywordEach [] X.env)).all (fun x => x.1.isSome)
      && decide ((e :: ([] : List Expr)).length + ([] : List Keyword).length + (if ([] : List Keyword).isEmpty then 0 else 1) < 30)) = true := by rfl)
    (hline : (apos.endLine == cpos.line) = true := by rfl) (hs : starEach (e :: []) X.env = (false, eval e X.env) :: starEach [] X.env := by rfl) (hplain : (backTo cpos (starEach [] X.env)).any (·.1) = false := by rfl)
    (hsw : swapsWith (.Call (.Attribute (.Name x p1) "append" apos) [e] [] cpos) none pos.line X.env = pure false := by rfl) :
    RS X n0 (.Expr (.Call (.Attribute (.Name x p1) "append" apos) [e] [] cpos) pos) (fApp i fe) := .mk fun st o hq => by
  obtain ⟨⟨d, c⟩, e1, hq⟩ := bind_some hq
  simp only at hq
  split at hq
  · rename_i k es
    obtain ⟨xs, ex, hq⟩ := bind_some hq
    by_cases hlen : xs.length < 100000
    rotate_left
    · rw [if_neg hlen] at hq; cases hq
    rw [if_pos hlen] at hq
    cases hq
    refine RS.of (ps_expr (pe_bm PySem.F.plainAttrs_list PySem.F.slot_list_append PySem.F.type_list_append mt_append (pe_var hN hv hd hcd) (pa_cons (pwE e) pa_nil hs) hbase hfew hline hs hplain) hsw) fun hs0 ps0 H0 i1 i2 hs ps σ H L R D q => ?_
    obtain ⟨w, w1, p, w2, rfl⟩ := R.slot i _ es
    have hc : k < st.cs.length := by
      by_cases hl : k < st.cs.length
      · exact hl
      · have := R.hr.len
        rw [List.getElem?_eq_none (by omega)] at w2; cases w2
    obtain ⟨ys, ey⟩ : ∃ ys, st.cs[k]? = some ys := ⟨_, List.getElem?_eq_getElem hc⟩
    obtain ⟨ws, z1, z2⟩ := R.hr.cel k p ys w2 ey
    refine ⟨_, w1, .inl ⟨rfl, ws, .inl (.inl z1)⟩, h _ _ _ e1 hs ps σ H R _ fun v H2 s2 R2 d2 => ?_⟩
    obtain ⟨vs, q1, q2⟩ := R2.hr.cel k p xs w2 ex
    obtain ⟨s4, R4⟩ := R2.putL w2 ex q1 (DpAll.app q2 (.cons d2 .nil))
    exact ⟨p, vs, v, rfl, rfl, q1, by rw [q2.len]; exact Nat.lt_trans hlen (by unfold sizeLine; decide : (100000 : Nat) < sizeLine), q hs ps σ _ ((L.step s2).step s4) R4⟩
  · cases hq
end

/-! ### so many times a list -/
theorem DpAll.rep {K : PySem.W.Frag} {H : Hp} {vs : List V} {xs : List PyData} (h : DpAll K H vs xs) : ∀ n : Nat, DpAll K H (List.replicate n vs).flatten (List.replicate n xs).flatten
  | 0 => .nil
  | n + 1 => by
    rw [List.replicate_succ, List.replicate_succ, List.flatten_cons, List.flatten_cons]
    exact DpAll.app h (DpAll.rep h n)
def fRep (a : FL) (b : FE) : FE := fun st => (a st).bind fun p => (b ⟨st.ds, p.2⟩).bind fun q => match q.1 with
  | .int k => if rngOk k = true ∧ p.1.length * k.toNat ≤ 100000 then some (.list (List.replicate k.toNat p.1).flatten, q.2) else none
  | _ => none
theorem re_rep {X : Cx} {a b : Expr} {pos : Pos} {fa : FL} {fb : FE} (ha : RL X a fa) (hb : RE X b fb) : RE X (.BinOp a .Mult b pos) (fRep fa fb) := .mk fun st d c h => by
  obtain ⟨⟨xs, c1⟩, h1, h⟩ := bind_some h
  obtain ⟨⟨y, c2⟩, h2, h⟩ := bind_some h
  simp only at h
  split at h
  · rename_i k
    by_cases hok : rngOk k = true ∧ xs.length * k.toNat ≤ 100000
    rotate_left
    · rw [if_neg hok] at h; cases h
    rw [if_pos hok] at h
    cases h
    have hk := of_decide_eq_true (show decide _ = true from hok.1)
    refine RE.of (pe_op op_rep (pwE a) (pwE b)) fun hs ps σ H R Q q => ha _ _ _ h1 hs ps σ H R _ fun p vs H2 hp s2 R2 e2 da => hb _ _ _ h2 (p :: hs) ps σ H2 R2 _ fun w H3 s3 R3 d3 => ?_
    cases dp_int d3
    have hph : p ∉ hs := fun m => R.hr.trk p m hp
    have e3 : H3 p = some (.lst vs) := s3 p _ (fun m => hph (R.hr.sub p m)) e2
    refine ⟨p, k, vs, rfl, rfl, e3, by omega, by omega, by rw [da.len]; exact lim_ok hok.2, fun t ht => ?_⟩
    have R4 := R3.less (fun a m => List.mem_cons_of_mem _ m) R.hr.sub
    have s4 : Step [] H3 (upd H3 t (.lst (List.replicate k.toNat vs).flatten)) := Step.new ht
    have hth : t ∉ hs := fun m => R4.hr.trk t m ht
    have da3 := (da.up (s3.hd0 R2.hr.sub)).up hid_cons_sub
    exact q _ _ ((s2.trans s3).trans (s4.mono (by simp))) (R4.step s4) (.lst (.inl (.inl (by rw [hid_out hth]; exact upd_same))) ((DpAll.rep da3 k.toNat).up (s4.hd0 (by simp))))
  · cases h

/-! ### slices of lists and of tuples; + of ints, lists, tuples -/
theorem DpAll.cut {K : PySem.W.Frag} {H : Hp} {vs : List V} {ds : List PyData} (da : DpAll K H vs ds) (lo hi : Option Int) : DpAll K H (cutV vs lo hi) (cutD ds lo hi) := by
  unfold cutV cutD
  rw [da.len]
  exact (da.dr _).tk _
theorem cutD_whole {ds : List PyData} {lo hi : Option Int} (h : HT.sIx ds.length 0 lo = 0 ∧ HT.sIx ds.length ds.length hi = ds.length) : cutD ds lo hi = ds := by
  unfold cutD
  rw [h.1, h.2, List.drop_zero, Nat.sub_zero, List.take_length]
def fSl (a : FE) (l u : Sta → Option (Option Int × Cs)) : FE := fun st => (a st).bind fun p => (l ⟨st.ds, p.2⟩).bind fun q => (u ⟨st.ds, q.2⟩).bind fun r => match p.1 with
  | .list xs => some (.list (cutD xs q.1 r.1), r.2)
  | .tuple xs => some (.tuple (cutD xs q.1 r.1), r.2)
  | _ => none
theorem sl_both {X : Cx} : SlR X (fun x lo hi H Q => rSlL X.K x lo hi H Q ∨ rSlA X.K x lo hi H Q) := by
  intro pins s σ H x v vl vu lo hi sl Q I rx hs pl pu h
  rcases h with h | h
  · exact sl_list pins s σ H _ v vl vu lo hi sl Q I rx hs pl pu h
  · exact sl_tupA pins s σ H _ v vl vu lo hi sl Q I rx hs pl pu h
theorem re_sl {X : Cx} {a : Expr} {pos : Pos} {fa : FE} {lo hi : Option Expr} {fl fu : Sta → Option (Option Int × Cs)} {p2 : Pos} (ha : RE X a fa) (hl : RO X lo fl) (hu : RO X hi fu) : RE X (.Subscript a (.Slice lo hi none p2) pos) (fSl fa fl fu) := .mk fun st d c h => by
  obtain ⟨⟨x, c1⟩, h1, h⟩ := bind_some h
  obtain ⟨⟨y, c2⟩, h2, h⟩ := bind_some h
  obtain ⟨⟨z, c3⟩, h3, h⟩ := bind_some h
  obtain ⟨tl, pl, kl⟩ := hl
  obtain ⟨tu, pu, ku⟩ := hu
  simp only at h
  split at h
  · cases h
    refine RE.of (pe_slice sl_both (pwE a) pl pu) fun hs ps σ H R Q q => ha _ _ _ h1 hs ps σ H R _ fun v H2 s2 R2 d2 => kl _ _ _ h2 hs ps σ H2 R2 _ fun H3 s3 R3 => ku _ _ _ h3 hs ps σ H3 R3 _ fun H4 s4 R4 => ?_
    obtain ⟨p, vs, rfl, hp, da⟩ := dp_list d2
    have sb := (s3.trans s4).hd0 R2.hr.sub
    refine .inl ⟨p, vs, rfl, sqL_mono hid_sub (sqL_mono sb hp), fun t ht => ?_⟩
    have da4 := DpAll.cut (da.up sb) y z
    have s5 : Step [] H4 (upd H4 t (.lst (cutV vs y z))) := Step.new ht
    have hth : t ∉ hs := fun m => R4.hr.trk t m ht
    exact q _ _ (((s2.trans s3).trans s4).trans (s5.mono (by simp))) (R4.step s5) (.lst (.inl (.inl (by rw [hid_out hth]; exact upd_same))) (da4.up (s5.hd0 (by simp))))
  · cases h
    refine RE.of (pe_slice sl_both (pwE a) pl pu) fun hs ps σ H R Q q => ha _ _ _ h1 hs ps σ H R _ fun v H2 s2 R2 d2 => kl _ _ _ h2 hs ps σ H2 R2 _ fun H3 s3 R3 => ku _ _ _ h3 hs ps σ H3 R3 _ fun H4 s4 R4 => ?_
    obtain ⟨p, vs, rfl, hp, da⟩ := dp_tuple d2
    have sb := (s3.trans s4).hd0 R2.hr.sub
    refine .inr ⟨p, vs, rfl, sqT_mono hid_sub (sqT_mono sb hp), fun hw => ?_, fun hw t ht => ?_⟩
    · rw [da.len] at hw
      rw [cutD_whole hw] at q
      exact q _ _ ((s2.trans s3).trans s4) R4 (d2.up sb)
    · have da4 := DpAll.cut (da.up sb) y z
      have s5 : Step [] H4 (upd H4 t (.tup (cutV vs y z))) := Step.new ht
      have hth : t ∉ hs := fun m => R4.hr.trk t m ht
      exact q _ _ (((s2.trans s3).trans s4).trans (s5.mono (by simp))) (R4.step s5) (.tup (.inl (.inl (by rw [hid_out hth]; exact upd_same))) (da4.up (s5.hd0 (by simp))))
  · cases h
theorem rg_tupK {X : Cx} {es : List Expr} {pos : Pos} {k n : Nat} {t : TGs} {js : List Nat} {r : Sta → List PyData → Option Sta} (K0 : PySem.W.Frag) (hK : X.K = K0) (hc : X.calm = true) (h : RGs X es t js r) (hn : (assignEach es X.env).length = n := by rfl) (hst : (assignEach es X.env).findIdx? (·.1) = none := by rfl) : RG X (.Tuple es k pos) (gTup K0 n t) js (aTup n r) := by
  subst hK
  exact rg_tup hc h hn hst
theorem dpa3 {K : PySem.W.Frag} {H : Hp} {vs : List V} {d d' d2 : PyData} (h : DpAll K H vs [d, d', d2]) : ∃ v w u, vs = [v, w, u] ∧ Dp K H v d ∧ Dp K H w d' ∧ Dp K H u d2 := by
  cases h with
  | cons a t =>
    obtain ⟨w, u, rfl, h2, h3⟩ := dpa2 t
    exact ⟨_, _, _, rfl, a, h2, h3⟩
def fPar3 (i j l : Nat) (a : FA) : FS := fun st => (a st).bind fun p => match p.1 with
  | [.dat x, .dat y, .dat z] => some (.nx ⟨((st.ds.set i (some (.dat x))).set j (some (.dat y))).set l (some (.dat z)), p.2⟩)
  | _ => none
theorem rs_par3 {X : Cx} {n0 : Nat} {a b c : Expr} {fa : FA} {pos : Pos} {i j l : Nat} {x y z : Str} {px py pz pt : Pos} {kt k2 pt2} (ha : RA X [a, b, c] fa)
    {P : PS X (.Assign [.Tuple [.Name x px, .Name y py, .Name z pz] kt pt] (.Tuple [a, b, c] k2 pt2) pos) (tPar3 i j l (wA X [a, b, c]))} : RS X n0 (.Assign [.Tuple [.Name x px, .Name y py, .Name z pz] kt pt] (.Tuple [a, b, c] k2 pt2) pos) (fPar3 i j l fa) := .mk fun st o hq => by
  obtain ⟨⟨xs, c⟩, e1, hq⟩ := bind_some hq
  simp only at hq
  split at hq
  · cases hq
    refine RS.of P fun hs0 ps0 H0 i1 i2 hs ps σ H L R D q => ha _ _ _ e1 hs ps σ H R _ fun vs H2 s2 R2 p2 => ?_
    obtain ⟨v, w, u, rfl, d1, d2, d3⟩ := dpa3 (paired_dat (ds := [_, _, _]) p2)
    exact ⟨v, w, u, rfl, q hs ps _ H2 (L.step s2) (((R2.set i (x := .dat _) d1).set j (x := .dat _) d2).set l (x := .dat _) d3)⟩
  · cases hq
end DL


set_option Elab.async false
set_option linter.all false
set_option maxRecDepth 100000
set_option maxHeartbeats 4000000
namespace DL
open PySem PySem.Spec L2
open PyProof.Rows hiding St

/-! ### a star in a row of values -/
def fStarA (a : FE) (r : FA) : FA := fun st => (a st).bind fun p => match p.1 with
  | .list xs => (r ⟨st.ds, p.2⟩).map fun q => (xs.map SV.dat ++ q.1, q.2)
  | .tuple xs => (r ⟨st.ds, p.2⟩).map fun q => (xs.map SV.dat ++ q.1, q.2)
  | _ => none
theorem paired_of_dat {K : PySem.W.Frag} {hs ps : List Addr} {H : Hp} : ∀ {ds : List PyData} {vs : List V}, DpAll K (hid hs H) vs ds → Paired (RelS K hs ps H) vs (ds.map SV.dat)
  | [], _, h => by cases h; exact .nil
  | _ :: _, _, h => by
    cases h with
    | cons a t => exact .cons a (paired_of_dat t)
theorem paired_app {R : V → SV → Prop} : ∀ {vs ws : List V} {xs ys : List SV}, Paired R vs xs → Paired R ws ys → Paired R (vs ++ ws) (xs ++ ys)
  | _, _, _, _, .nil, h => h
  | _, _, _, _, .cons a t, h => .cons a (paired_app t h)
section
variable {X : Cx} {a b c e : Expr} {es : List Expr} {fa fb fc fe : FE} {f : FA} {p pos : Pos}
theorem ra_star (ha : RE X e fa) (hr : RA X es f) (hs : starEach (.Starred e p :: es) X.env = (true, eval e X.env) :: starEach es X.env := by rfl) : RA X (.Starred e p :: es) (fStarA fa f) := .mk fun st d c h => by
  obtain ⟨⟨x, c1⟩, h1, h⟩ := bind_some h
  simp only at h
  split at h
  · rename_i xs
    obtain ⟨⟨ys, c2⟩, h2, e⟩ := map_some h
    cases e
    refine RA.of (StX.pa_star (pwE e) (pwA es) hs) fun hs ps σ H R Q q => ha _ _ _ h1 hs ps σ H R _ fun v H2 s2 R2 d2 => ?_
    obtain ⟨p, vs, rfl, hp, da⟩ := dp_list d2
    refine ⟨p, vs, rfl, .inr (sqL_mono hid_sub hp), hr _ _ _ h2 hs ps σ H2 R2 _ fun ws H3 s3 R3 p3 => ?_⟩
    exact q _ H3 (s2.trans s3) R3 (paired_app (paired_of_dat (da.up (s3.hd0 R2.hr.sub))) p3)
  · rename_i xs
    obtain ⟨⟨ys, c2⟩, h2, e⟩ := map_some h
    cases e
    refine RA.of (StX.pa_star (pwE e) (pwA es) hs) fun hs ps σ H R Q q => ha _ _ _ h1 hs ps σ H R _ fun v H2 s2 R2 d2 => ?_
    obtain ⟨p, vs, rfl, hp, da⟩ := dp_tuple d2
    refine ⟨p, vs, rfl, .inl (sqT_mono hid_sub hp), hr _ _ _ h2 hs ps σ H2 R2 _ fun ws H3 s3 R3 p3 => ?_⟩
    exact q _ H3 (s2.trans s3) R3 (paired_app (paired_of_dat (da.up (s3.hd0 R2.hr.sub))) p3)
  · cases h

/-! ### type(x) is not T -/
def gTyNot (T : String) (x : PyData) : Option PyData := some (.bool (!decide (tyOf x = T)))
theorem re_tyNot {y : Str} {T : String} {p1 p2 p3 : Pos} (hg : Gl X "type") (hm : X.mg "type" = none) (hgT : Gl X y) (hmT : X.mg y = none) (hvT : bootBuiltins y = some (.type T)) (ha : RE X a fe) (he : starEach [a] X.env = (false, eval a X.env) :: starEach [] X.env := by with_reducible first | exact sn_name | exact sn_const | exact sn_tup | exact sn_list | exact sn_bin | exact sn_un | exact sn_bool | exact sn_cmp | exact sn_call | exact sn_sub | exact sn_if | exact sn_attr | exact sn_lc)
    (hnT : y ≠ "__name__" := by decide) (hdT : (y == ("__debug__" : Str)) = false := by decide) :
    RE X (.Compare (.Call (.Name "type" p1) [a] [] p2) [.IsNot] [.Name y p3] pos) (fUn (gTyNot T) fe) := .mk fun st d c h => by
  obtain ⟨⟨z, c1⟩, h1, h⟩ := bind_some h
  obtain ⟨w, h2, e⟩ := map_some h
  cases e
  cases h2
  refine RE.of (pe_cmpR op_notTyB (pe_callTy call_typeD hg hm (by decide +kernel) (pa_cons (pwE a) pa_nil he) (he := he)) (pe_bltn (v := .ty T) hgT hmT hvT rfl hnT hdT) (nomark _)) fun hs ps σ H R Q q => ha _ _ _ h1 hs ps σ H R _ fun v H2 s2 R2 d2 => ?_
  exact ⟨v, z, rfl, d2.up hid_sub, _, _, rfl, rfl, q _ H2 s2 R2 (.bl _)⟩
theorem rt_tyNot {y : Str} {T : String} {p1 p2 p3 : Pos} (hg : Gl X "type") (hm : X.mg "type" = none) (hgT : Gl X y) (hmT : X.mg y = none) (hvT : bootBuiltins y = some (.type T)) (ha : RE X a fe) (he : starEach [a] X.env = (false, eval a X.env) :: starEach [] X.env := by with_reducible first | exact sn_name | exact sn_const | exact sn_tup | exact sn_list | exact sn_bin | exact sn_un | exact sn_bool | exact sn_cmp | exact sn_call | exact sn_sub | exact sn_if | exact sn_attr | exact sn_lc)
    (hnT : y ≠ "__name__" := by decide) (hdT : (y == ("__debug__" : Str)) = false := by decide) :
    RT X (.Compare (.Call (.Name "type" p1) [a] [] p2) [.IsNot] [.Name y p3] pos) (fTru (fUn (gTyNot T) fe)) := .mk fun st d c h => by
  obtain ⟨⟨w, c0⟩, h0, h⟩ := bind_some h
  obtain ⟨⟨z, c1⟩, h1, h0⟩ := bind_some h0
  obtain ⟨w, h2, e⟩ := map_some h0
  cases e
  cases h2
  cases h
  refine RT.of (pt_cmpR op_notTyB (pe_callTy call_typeD hg hm (by decide +kernel) (pa_cons (pwE a) pa_nil he) (he := he)) (pe_bltn (v := .ty T) hgT hmT hvT rfl hnT hdT) (nomark _)) fun hs ps σ H R Q q => ha _ _ _ h1 hs ps σ H R _ fun v H2 s2 R2 d2 => ?_
  exact ⟨v, z, rfl, d2.up hid_sub, _, _, rfl, rfl, _, rfl, q H2 s2 R2⟩

/-! ### a op b op c, of ints -/
def fChain (g1 g2 : PyData → PyData → Option PyData) (a b c : FE) : FE := fun st => (a st).bind fun p => (b ⟨st.ds, p.2⟩).bind fun q => (g1 p.1 q.1).bind fun z => match z with
  | .bool true => (c ⟨st.ds, q.2⟩).bind fun r => match g2 q.1 r.1 with
    | some (.bool w) => some (.bool w, r.2)
    | _ => none
  | .bool false => some (.bool false, q.2)
  | _ => none
theorem ed_chain {K : PySem.W.Frag} {r r' : R2} {g1 g2 : PyData → PyData → Option PyData} {ta tb tc : TE} {st : Sta} {d : PyData} {cs : Cs} (hr : ∀ x y z, g1 x y = some z → RD K r x y z) (hr' : ∀ x y z, g2 x y = some z → RD K r' x y z)
    (ha : ∀ st d c, fa st = some (d, c) → ED K ta st d c) (hb : ∀ st d c, fb st = some (d, c) → ED K tb st d c) (hc : ∀ st d c, fc st = some (d, c) → ED K tc st d c) (h : fChain g1 g2 fa fb fc st = some (d, cs)) : (∃ w, d = .bool w) ∧ ED K (tChain r r' ta tb tc) st d cs := by
  obtain ⟨⟨x, c1⟩, h1, h⟩ := bind_some h
  obtain ⟨⟨y, c2⟩, h2, h⟩ := bind_some h
  obtain ⟨z, h3, h⟩ := bind_some h
  simp only at h1 h2 h3 h
  split at h
  · obtain ⟨⟨u, c3⟩, h4, h⟩ := bind_some h
    simp only at h
    split at h
    · rename_i w h5
      cases h
      refine ⟨⟨w, rfl⟩, fun hs ps σ H R Q q => ha _ _ _ h1 hs ps σ H R _ fun v1 H1 s1 R1 d1 => hb _ _ _ h2 hs ps σ H1 R1 _ fun v2 H2 s2 R2 d2 => hr _ _ _ h3 hs H2 v1 v2 R2.hr.trk (d1.up (s2.hd0 R1.hr.sub)) d2 _ fun u1 H3 s3 d3 => ⟨true, dp_bool d3, ?_⟩⟩
      rw [if_pos rfl]
      have R3 := R2.step s3
      refine hc _ _ _ h4 hs ps σ H3 R3 _ fun v3 H4 s4 R4 d4 => hr' _ _ _ h5 hs H4 v2 v3 R4.hr.trk ((d2.up ((s3.mono (qs := ps) (by simp)).hd0 R2.hr.sub)).up (s4.hd0 R3.hr.sub)) d4 _ fun u2 H5 s5 d5 => ?_
      exact q u2 H5 ((((s1.trans s2).trans (s3.mono (by simp))).trans s4).trans (s5.mono (by simp))) (R4.step s5) d5
    · cases h
  · cases h
    refine ⟨⟨false, rfl⟩, fun hs ps σ H R Q q => ha _ _ _ h1 hs ps σ H R _ fun v1 H1 s1 R1 d1 => hb _ _ _ h2 hs ps σ H1 R1 _ fun v2 H2 s2 R2 d2 => hr _ _ _ h3 hs H2 v1 v2 R2.hr.trk (d1.up (s2.hd0 R1.hr.sub)) d2 _ fun u1 H3 s3 d3 => ⟨false, dp_bool d3, ?_⟩⟩
    rw [if_neg (by simp)]
    exact q _ H3 ((s1.trans s2).trans (s3.mono (by simp))) (R2.step s3) (.bl _)
  · cases h
def OC (X : Cx) (op : CmpOp) (g : PyData → PyData → Option PyData) : Prop := ∃ r, OpR X (compareOp op) r ∧ ∀ x y z, g x y = some z → RD X.K r x y z
theorem oc_lt : OC X .Lt (gCmp fun i j => decide (i < j)) := ⟨_, op_lt, fun _ _ _ h => rd_cmp h⟩
theorem oc_le : OC X .LtE (gCmp fun i j => decide (i ≤ j)) := ⟨_, op_le, fun _ _ _ h => rd_cmp h⟩
theorem oc_gt : OC X .Gt (gCmp fun i j => decide (j < i)) := ⟨_, op_gt, fun _ _ _ h => rd_cmp h⟩
theorem oc_ge : OC X .GtE (gCmp fun i j => decide (j ≤ i)) := ⟨_, op_ge, fun _ _ _ h => rd_cmp h⟩
theorem oc_eq (hu : X.A.units + 64 < cLine) : OC X .Eq gEq := ⟨_, op_eqD hu, fun _ _ _ h => rd_eq h⟩
theorem oc_ne (hu : X.A.units + 64 < cLine) : OC X .NotEq gNe := ⟨_, op_neD hu, fun _ _ _ h => rd_ne h⟩
theorem re_chain {o1 o2 : CmpOp} {g1 g2 : PyData → PyData → Option PyData} (h1 : OC X o1 g1) (h2 : OC X o2 g2) (ha : RE X a fa) (hb : RE X b fb) (hc : RE X c fc) (hm : lastMarks [o1, o2] [b, c] = false := by with_unfolding_all rfl) : RE X (.Compare a [o1, o2] [b, c] pos) (fChain g1 g2 fa fb fc) := .mk fun st d c h => by
  obtain ⟨r1, q1, k1⟩ := h1
  obtain ⟨r2, q2, k2⟩ := h2
  exact RE.of (pe_chain q1 q2 (pwE _) (pwE _) (pwE _) hm) (ed_chain k1 k2 ha.h hb.h hc.h h).2
theorem rt_chain {o1 o2 : CmpOp} {g1 g2 : PyData → PyData → Option PyData} (h1 : OC X o1 g1) (h2 : OC X o2 g2) (ha : RE X a fa) (hb : RE X b fb) (hc : RE X c fc) (hm : lastMarks [o1, o2] [b, c] = false := by with_unfolding_all rfl) : RT X (.Compare a [o1, o2] [b, c] pos) (fTru (fChain g1 g2 fa fb fc)) := .mk fun st d c h => by
  obtain ⟨r1, q1, k1⟩ := h1
  obtain ⟨r2, q2, k2⟩ := h2
  obtain ⟨⟨w, c0⟩, h0, h⟩ := bind_some h
  obtain ⟨⟨b, rfl⟩, k⟩ := ed_chain k1 k2 ha.h hb.h hc.h h0
  simp only [Option.some.injEq, Prod.mk.injEq] at h
  obtain ⟨rfl, rfl⟩ := h
  exact RT.of (pt_chain q1 q2 (pwE _) (pwE _) (pwE _) hm) fun hs ps σ H R Q q => k hs ps σ H R _ fun v H2 s2 R2 d2 => ⟨_, dp_bool d2, q H2 s2 R2⟩

/-! ### in, of flat values -/
def flatD : PyData → Bool
  | .none => true
  | .bool _ => true
  | .int _ => true
  | .str _ => true
  | _ => false
def eqD : PyData → PyData → Bool
  | .none, .none => true
  | .bool a, .bool b => a == b
  | .bool a, .int b => (if a then 1 else 0) == b
  | .int a, .bool b => a == (if b then 1 else 0)
  | .int a, .int b => a == b
  | .str a, .str b => a == b
  | _, _ => false
def gIn : PyData → PyData → Option PyData
  | x, .tuple xs => if flatD x = true ∧ xs.all flatD = true then some (.bool (xs.any fun y => eqD y x)) else none
  | x, .list xs => if flatD x = true ∧ xs.all flatD = true then some (.bool (xs.any fun y => eqD y x)) else none
  | _, _ => none
def gNotIn : PyData → PyData → Option PyData
  | x, .tuple xs => if flatD x = true ∧ xs.all flatD = true then some (.bool (!xs.any fun y => eqD y x)) else none
  | x, .list xs => if flatD x = true ∧ xs.all flatD = true then some (.bool (!xs.any fun y => eqD y x)) else none
  | _, _ => none
theorem flat_dp {K : PySem.W.Frag} {H : Hp} {v : V} {d : PyData} (h : Dp K H v d) (f : flatD d = true) : flatV v = true := by
  cases h <;> first | rfl | cases f
theorem eqD_dp {K : PySem.W.Frag} {H : Hp} {v w : V} {d e : PyData} (h : Dp K H v d) (k : Dp K H w e) (f : flatD d = true) (g : flatD e = true) : eqV v w = eqD d e := by
  cases h <;> cases k <;> first | rfl | cases f | cases g
theorem all_dp {K : PySem.W.Frag} {H : Hp} : ∀ {vs : List V} {ds : List PyData}, DpAll K H vs ds → ds.all flatD = true → vs.all flatV = true
  | _, _, .nil, _ => rfl
  | _, _, .cons a t, h => by
    rw [List.all_cons, Bool.and_eq_true] at h ⊢
    exact ⟨flat_dp a h.1, all_dp t h.2⟩
theorem any_dp {K : PySem.W.Frag} {H : Hp} {w : V} {e : PyData} (k : Dp K H w e) (g : flatD e = true) : ∀ {vs : List V} {ds : List PyData}, DpAll K H vs ds → ds.all flatD = true → (vs.any fun y => eqV y w) = (ds.any fun y => eqD y e)
  | _, _, .nil, _ => rfl
  | _, _, .cons a t, h => by
    rw [List.all_cons, Bool.and_eq_true] at h
    rw [List.any_cons, List.any_cons, any_dp k g t h.2, eqD_dp a k h.1 g]
theorem rd_in {K : PySem.W.Frag} {x y z : PyData} (h : gIn x y = some z) : RD K (rIn K false) x y z := by
  unfold gIn at h
  split at h
  · split at h <;> cases h
    rename_i hf
    intro hs H v w _ d1 d2 Q q
    obtain ⟨p, vs, rfl, hp, da⟩ := dp_tuple d2
    refine ⟨p, vs, rfl, .inr (sqT_mono hid_sub hp), flat_dp d1 hf.1, all_dp da hf.2, ?_⟩
    rw [if_neg (by simp)]
    unfold inV
    rw [any_dp d1 hf.1 da hf.2]
    exact q _ H (Step.refl H) (.bl _)
  · split at h <;> cases h
    rename_i hf
    intro hs H v w _ d1 d2 Q q
    obtain ⟨p, vs, rfl, hp, da⟩ := dp_list d2
    refine ⟨p, vs, rfl, .inl (sqL_mono hid_sub hp), flat_dp d1 hf.1, all_dp da hf.2, ?_⟩
    rw [if_neg (by simp)]
    unfold inV
    rw [any_dp d1 hf.1 da hf.2]
    exact q _ H (Step.refl H) (.bl _)
  · cases h
theorem rd_notIn {K : PySem.W.Frag} {x y z : PyData} (h : gNotIn x y = some z) : RD K (rIn K true) x y z := by
  unfold gNotIn at h
  split at h
  · split at h <;> cases h
    rename_i hf
    intro hs H v w _ d1 d2 Q q
    obtain ⟨p, vs, rfl, hp, da⟩ := dp_tuple d2
    refine ⟨p, vs, rfl, .inr (sqT_mono hid_sub hp), flat_dp d1 hf.1, all_dp da hf.2, ?_⟩
    rw [if_pos rfl]
    unfold inV
    rw [any_dp d1 hf.1 da hf.2]
    exact q _ H (Step.refl H) (.bl _)
  · split at h <;> cases h
    rename_i hf
    intro hs H v w _ d1 d2 Q q
    obtain ⟨p, vs, rfl, hp, da⟩ := dp_list d2
    refine ⟨p, vs, rfl, .inl (sqL_mono hid_sub hp), flat_dp d1 hf.1, all_dp da hf.2, ?_⟩
    rw [if_pos rfl]
    unfold inV
    rw [any_dp d1 hf.1 da hf.2]
    exact q _ H (Step.refl H) (.bl _)
  · cases h
theorem re_in (ha : RE X a fa) (hb : RE X b fb) (hm : behindInMarks .In b = false := by with_unfolding_all rfl) : RE X (.Compare a [.In] [b] pos) (fOp gIn fa fb) := re_cmp op_in_seq (fun _ _ _ h => rd_in h) ha hb hm
theorem re_notIn (ha : RE X a fa) (hb : RE X b fb) (hm : behindInMarks .NotIn b = false := by with_unfolding_all rfl) : RE X (.Compare a [.NotIn] [b] pos) (fOp gNotIn fa fb) := re_cmp op_notIn_seq (fun _ _ _ h => rd_notIn h) ha hb hm
theorem rt_in (ha : RE X a fa) (hb : RE X b fb) (hm : behindInMarks .In b = false := by with_unfolding_all rfl) : RT X (.Compare a [.In] [b] pos) (fTru (fOp gIn fa fb)) := rt_cmp op_in_seq (fun _ _ _ h => rd_in h) ha hb hm
theorem rt_notIn (ha : RE X a fa) (hb : RE X b fb) (hm : behindInMarks .NotIn b = false := by with_unfolding_all rfl) : RT X (.Compare a [.NotIn] [b] pos) (fTru (fOp gNotIn fa fb)) := rt_cmp op_notIn_seq (fun _ _ _ h => rd_notIn h) ha hb hm
end

/-! ### isqrt -/
def sqrtOk (i : Int) : Bool := decide (0 ≤ i ∧ i.toNat.log2 ≤ 13000)
def rSqrt : List V → Hp → VK → Prop := fun vs H Q => ∃ a : Int, vs = [.int a] ∧ sqrtOk a = true ∧ Q (.int ((Float64.isqrt a.toNat : Nat) : Int)) H
theorem cr_isqrt {X : Cx} : CallR X (.builtin "math.isqrt") rSqrt := by
  intro pins s σ H vs us Q I r h
  obtain ⟨a, rfl, ok, q⟩ := h
  have ok' := of_decide_eq_true (show decide _ = true from ok)
  obtain ⟨u, rfl, t, rfl⟩ := vals1 r
  exact PySem.call_function_meets PySem.W.MGF.kind_isqrt PySem.W.MGF.plain_isqrt PySem.W.MGF.entry_isqrt (PySem.W.MGF.args_isqrt _) (PySem.W.mg_run_isqrt a t (by omega) (by omega) (by omega)).meets ⟨.int _, H, I.tok _, ⟨_, rfl⟩, q⟩
def gSqrt : List PyData → Option PyData
  | [.int i] => if sqrtOk i = true then some (.int ((Float64.isqrt i.toNat : Nat) : Int)) else none
  | _ => none
theorem re_isqrt {X : Cx} {a : Expr} {x : Str} {p pos : Pos} {fa : FA} (hg : Gl X x) (hm : X.mg x = some (.builtin "math.isqrt")) (ha : RA X [a] fa) (hdb : (x == ("__debug__" : Str)) = false := by decide) (he : starEach [a] X.env = (false, eval a X.env) :: starEach [] X.env := by with_reducible first | exact sn_name | exact sn_const | exact sn_tup | exact sn_list | exact sn_bin | exact sn_un | exact sn_bool | exact sn_cmp | exact sn_call | exact sn_sub | exact sn_if | exact sn_attr | exact sn_lc) (hpl : (backTo pos (starEach [] X.env)).any (·.1) = false := by rfl) : RE X (.Call (.Name x p) [a] [] pos) (fBi gSqrt fa) := .mk fun st d c h =>
  RE.of (pe_callBfun cr_isqrt hg hm (pwA [a]) hdb he hpl) (ed_bi h (fun xs z h => by
    unfold gSqrt at h
    split at h
    · split at h <;> cases h
      rename_i hok
      intro hs H vs _ d Q q
      obtain ⟨v, rfl, d1⟩ := dpa1 d
      cases dp_int d1
      exact ⟨_, rfl, hok, q _ H (Step.refl H) (.int _)⟩
    · cases h) ha)

/-! ### so many times a list, as a list of one's own -/
def fRepL (a : FL) (b : FE) : FL := fun st => (a st).bind fun p => (b ⟨st.ds, p.2⟩).bind fun q => match q.1 with
  | .int k => if rngOk k = true ∧ p.1.length * k.toNat ≤ 100000 then some ((List.replicate k.toNat p.1).flatten, q.2) else none
  | _ => none
theorem rl_rep {X : Cx} {a b : Expr} {pos : Pos} {fa : FL} {fb : FE} (ha : RL X a fa) (hb : RE X b fb) : RL X (.BinOp a .Mult b pos) (fRepL fa fb) := .mk fun st d c h => by
  obtain ⟨⟨xs, c1⟩, h1, h⟩ := bind_some h
  obtain ⟨⟨y, c2⟩, h2, h⟩ := bind_some h
  simp only at h
  split at h
  · rename_i k
    by_cases hok : rngOk k = true ∧ xs.length * k.toNat ≤ 100000
    rotate_left
    · rw [if_neg hok] at h; cases h
    rw [if_pos hok] at h
    cases h
    have hk := of_decide_eq_true (show decide _ = true from hok.1)
    refine RL.of (pe_op op_rep (pwE a) (pwE b)) fun hs ps σ H R Q q => ha _ _ _ h1 hs ps σ H R _ fun p vs H2 hp s2 R2 e2 da => hb _ _ _ h2 (p :: hs) ps σ H2 R2 _ fun w H3 s3 R3 d3 => ?_
    cases dp_int d3
    have hph : p ∉ hs := fun m => R.hr.trk p m hp
    have e3 : H3 p = some (.lst vs) := s3 p _ (fun m => hph (R.hr.sub p m)) e2
    refine ⟨p, k, vs, rfl, rfl, e3, by omega, by omega, by rw [da.len]; exact lim_ok hok.2, fun t ht => ?_⟩
    have R4 := R3.less (fun a m => List.mem_cons_of_mem _ m) R.hr.sub
    have da3 := (da.up (s3.hd0 R2.hr.sub)).up hid_cons_sub
    have s23 := s2.trans s3
    obtain ⟨k1, k2, k3, k4, k5⟩ := lay_list (vs := (List.replicate k.toNat vs).flatten) (ds := (List.replicate k.toNat xs).flatten) s23 R4 ht (DpAll.rep da3 k.toNat)
    exact q t _ _ k1 k2 k3 k4 k5
  · cases h

end DL


set_option Elab.async false
set_option linter.all false
set_option maxRecDepth 100000
set_option maxHeartbeats 4000000
namespace DL
open PySem PySem.Spec L2
open PyProof.Rows hiding St

/-! a comprehension within a comprehension -/
def relab (sc outer : Scope) : Scope := { sc with names := sc.names.map fun (n, k) => if (k == .free && outer.kind == .function && outer.names.lookup n == some .cell) then (n, .cell) else (n, k) }
theorem relab_eq {scope outer : Scope} {env : PySem.Env} (he : env.scope = outer) : relabel scope env = relab scope outer := by
  unfold relabel relab Env.kindOf
  rw [he]
theorem blkOk_in {N : List Str} {scope scope2 outer : Scope} {own : List (Str × Nat)} {env : PySem.Env} (he : env.scope = outer) (h : blkC N (relab scope outer) scope2 own = true) : BlkOk N (relabel scope env) scope2 own := by
  rw [relab_eq he]
  exact blkOk_by h
end DL


set_option linter.all false
/-! rows of ints: common divisors, reduced rows -/
namespace PL
def gL : List Int → Nat
  | [] => 0
  | x :: r => Nat.gcd x.natAbs (gL r)
def mL (v : List Int) : Int := if 1 < gL v then (gL v : Int) else 1
def red (v : List Int) : List Int := v.map fun x => x / mL v
theorem gL_dvd : ∀ {v : List Int} {x : Int}, x ∈ v → ((gL v : Nat) : Int) ∣ x
  | [], _, h => by cases h
  | y :: r, x, h => by
    rcases List.mem_cons.mp h with rfl | h
    · exact Int.natAbs_dvd_natAbs.mp (by rw [Int.natAbs_natCast]; exact Nat.gcd_dvd_left _ _)
    · exact Int.dvd_trans (Int.natCast_dvd_natCast.mpr (Nat.gcd_dvd_right _ _)) (gL_dvd h)
theorem dvd_gL {k : Nat} : ∀ {v : List Int}, (∀ x ∈ v, (k : Int) ∣ x) → k ∣ gL v
  | [], _ => Nat.dvd_zero k
  | y :: r, h => Nat.dvd_gcd (by
      have := Int.natAbs_dvd_natAbs.mpr (h y List.mem_cons_self)
      rwa [Int.natAbs_natCast] at this) (dvd_gL fun x m => h x (List.mem_cons_of_mem _ m))
theorem gL_zero {v : List Int} (h : gL v = 0) : ∀ x ∈ v, x = 0 := fun x m => by
  have := gL_dvd m
  rw [h] at this
  exact Int.zero_dvd.mp this
theorem mL_pos (v : List Int) : 0 < mL v := by unfold mL; split <;> omega
theorem mL_dvd {v : List Int} {x : Int} (h : x ∈ v) : mL v ∣ x := by
  unfold mL
  split
  · exact gL_dvd h
  · exact Int.one_dvd x
theorem mL_eq {v : List Int} (h : gL v ≠ 0) : mL v = gL v := by unfold mL; split <;> omega
theorem red_mul_mL (v : List Int) : ∀ x ∈ v, x / mL v * mL v = x := fun x m => Int.ediv_mul_cancel (mL_dvd m)
theorem gL_map_mul (c : Int) : ∀ v : List Int, gL (v.map (c * ·)) = c.natAbs * gL v
  | [] => by simp [gL]
  | x :: r => by
    show Nat.gcd (c * x).natAbs (gL (r.map (c * ·))) = _
    rw [gL_map_mul c r, Int.natAbs_mul, Nat.gcd_mul_left]; rfl
theorem red_eq_map (v : List Int) : v = (red v).map (mL v * ·) := by
  unfold red
  rw [List.map_map]
  conv => lhs; rw [← List.map_id v]
  exact List.map_congr_left fun x m => by
    show x = mL v * (x / mL v)
    rw [Int.mul_comm]; exact (red_mul_mL v x m).symm
theorem gL_red {v : List Int} (h : gL v ≠ 0) : gL (red v) = 1 := by
  have e := congrArg gL (red_eq_map v)
  rw [gL_map_mul, mL_eq h, Int.natAbs_natCast] at e
  exact (Nat.mul_right_cancel (Nat.pos_of_ne_zero h) (by rw [Nat.one_mul, Nat.mul_comm]; exact e)).symm
theorem red_of_one {v : List Int} (h : gL v = 1) : red v = v := by
  unfold red mL
  rw [h]
  simp
theorem red_mul {c : Int} (hc : 0 < c) (v : List Int) : red (v.map (c * ·)) = red v := by
  by_cases h : gL v = 0
  · have z := gL_zero h
    have : v.map (c * ·) = v := by
      conv => rhs; rw [← List.map_id v]
      exact List.map_congr_left fun x m => by rw [z x m]; simp
    rw [this]
  · have h1 : gL (v.map (c * ·)) ≠ 0 := by
      rw [gL_map_mul]
      exact Nat.mul_ne_zero (by omega) h
    unfold red
    rw [mL_eq h1, mL_eq h, gL_map_mul, List.map_map]
    refine List.map_congr_left fun x m => ?_
    show c * x / ((c.natAbs * gL v : Nat) : Int) = x / gL v
    have e : ((c.natAbs * gL v : Nat) : Int) = c * gL v := by
      rw [Int.natCast_mul, Int.natAbs_of_nonneg (Int.le_of_lt hc)]
    rw [e]
    exact Int.mul_ediv_mul_of_pos _ _ hc
/-- rows that are the same but for a factor above 0 -/
theorem red_par {a b : Int} {v w : List Int} (ha : 0 < a) (hb : 0 < b) (h : v.map (a * ·) = w.map (b * ·)) : red v = red w := by
  rw [← red_mul ha v, h, red_mul hb w]
theorem red_len (v : List Int) : (red v).length = v.length := by unfold red; simp
theorem red_red {v : List Int} (h : gL v ≠ 0) : red (red v) = red v := red_of_one (gL_red h)
theorem gL_ne {v : List Int} {x : Int} (h : x ∈ v) (hx : x ≠ 0) : gL v ≠ 0 := fun z => hx (gL_zero z x h)
theorem gL_foldl : ∀ (v : List Int) (g : Nat), v.foldl (fun g x => Nat.gcd g x.natAbs) g = Nat.gcd g (gL v)
  | [], g => by simp [gL]
  | x :: r, g => by
    rw [List.foldl_cons, gL_foldl r]
    show _ = Nat.gcd g (Nat.gcd x.natAbs (gL r))
    rw [Nat.gcd_assoc]
end PL


set_option Elab.async false
set_option linter.all false
set_option maxRecDepth 100000
set_option maxHeartbeats 400000
set_option exponentiation.threshold 20000
namespace PL
open PySem PySem.Spec L2 DL

/-! sizes -/
theorem bsome {α β : Type} (x : α) (f : α → Option β) : (some x).bind f = f x := by rw [Option.bind_some]
theorem msome {α β : Type} (x : α) (f : α → β) : (some x).map f = some (f x) := by rw [Option.map_some]
theorem sq_nn (x : Int) : 0 ≤ x * x := by
  rcases Int.le_total 0 x with h | h
  · exact Int.mul_nonneg h h
  · exact Int.mul_nonneg_of_nonpos_of_nonpos h h
theorem sq_z {x : Int} (h : x * x = 0) : x = 0 := by rcases Int.mul_eq_zero.mp h with h | h <;> exact h
def Sm (n : Nat) (x : Int) : Prop := x.natAbs < 2 ^ n
theorem Sm.mul {n : Nat} {x y : Int} (h : Sm (n / 2) x) (g : Sm (n / 2) y) : Sm n (x * y) := by
  unfold Sm at *
  rw [Int.natAbs_mul]
  have h1 := Nat.mul_lt_mul_of_lt_of_le h (Nat.le_of_lt g) (Nat.two_pow_pos _)
  rw [← Nat.pow_add] at h1
  exact Nat.lt_of_lt_of_le h1 (Nat.pow_le_pow_right (by decide) (by omega))
theorem Sm.add {n : Nat} {x y : Int} (h0 : 0 < n) (h : Sm (n - 1) x) (g : Sm (n - 1) y) : Sm n (x + y) := by
  unfold Sm at *
  obtain ⟨m, rfl⟩ : ∃ m, n = m + 1 := ⟨n - 1, by omega⟩
  rw [Nat.add_sub_cancel] at h g
  rw [Nat.pow_succ]; omega
theorem Sm.sub {n : Nat} {x y : Int} (h0 : 0 < n) (h : Sm (n - 1) x) (g : Sm (n - 1) y) : Sm n (x - y) := by
  unfold Sm at *
  obtain ⟨m, rfl⟩ : ∃ m, n = m + 1 := ⟨n - 1, by omega⟩
  rw [Nat.add_sub_cancel] at h g
  rw [Nat.pow_succ]; omega
theorem Sm.neg {m : Nat} {x : Int} (h : Sm m x) : Sm m (-x) := by unfold Sm at *; rw [Int.natAbs_neg]; exact h
theorem Sm.div {m : Nat} {x y : Int} (h : Sm m x) : Sm m (x / y) := Nat.lt_of_le_of_lt (Int.natAbs_ediv_le_natAbs x y) h
theorem Sm.lit {n m : Nat} (h : m < 1099511627776) (hn : 40 ≤ n) : Sm n (OfNat.ofNat m) := Nat.lt_of_lt_of_le (show m < 2 ^ 40 from h) (Nat.pow_le_pow_right (by decide) hn)
theorem Sm.zero {n : Nat} : Sm n 0 := Nat.two_pow_pos _
theorem Sm.one {n : Nat} (h : 0 < n) : Sm n 1 := Nat.lt_of_lt_of_le (by decide : (1 : Int).natAbs < 2 ^ 1) (Nat.pow_le_pow_right (by decide) h)
theorem Sm.up {m : Nat} (n : Nat) {x : Int} (h : Sm m x) (hn : m ≤ n) : Sm n x := Nat.lt_of_lt_of_le h (Nat.pow_le_pow_right (by decide) hn)
theorem Sm.log {n : Nat} {x : Int} (h : Sm n x) (h0 : 0 < n) : x.natAbs.log2 < n := PySem.Flt.log2_lt_of h0 h
/-- at most n places -/
abbrev Sz (n : Nat) (x : Int) : Prop := ∀ k, Sm (k + n) x
theorem Sm.sz {n : Nat} {x : Int} (h : Sm n x) : Sz n x := fun k => h.up _ (by omega)
theorem Sz.sm {n m : Nat} {x : Int} (h : Sz n x) (hn : n ≤ m := by decide) : Sm m x := (h 0).up _ (by omega)
theorem Sz.by (n : Nat) {m : Nat} {x : Int} (h : Sz m x) (hn : m ≤ n) : Sz n x := (h.sm hn).sz
theorem Sz.mul {m n : Nat} {x y : Int} (h : Sz m x) (g : Sz n y) : Sz (m + n) (x * y) := Sm.sz (by
  have h := h.sm (Nat.le_refl m)
  have g := g.sm (Nat.le_refl n)
  unfold Sm at *
  rw [Int.natAbs_mul, Nat.pow_add]
  exact Nat.mul_lt_mul_of_lt_of_le h (Nat.le_of_lt g) (Nat.two_pow_pos _))
theorem Sz.add {m n : Nat} {x y : Int} (h : Sz m x) (g : Sz n y) : Sz (max m n + 1) (x + y) :=
  (Sm.add (by omega) (h.sm (by omega)) (g.sm (by omega))).sz
theorem Sz.sub {m n : Nat} {x y : Int} (h : Sz m x) (g : Sz n y) : Sz (max m n + 1) (x - y) :=
  (Sm.sub (by omega) (h.sm (by omega)) (g.sm (by omega))).sz
theorem Sz.neg {m : Nat} {x : Int} (h : Sz m x) : Sz m (-x) := fun k => (h k).neg
theorem Sz.div {m : Nat} {x y : Int} (h : Sz m x) : Sz m (x / y) := fun k => (h k).div
theorem Sz.of40 {x : Int} (h : x.natAbs < 2 ^ 40) : Sz 40 x := Sm.sz h
theorem Sz.lit2 {x : Int} (h : x.natAbs < 2 ^ 2) : Sz 2 x := Sm.sz h
theorem sz_2 : Sz 2 (2 : Int) := Sz.lit2 (by decide)
theorem sz_3 : Sz 2 (3 : Int) := Sz.lit2 (by decide)
theorem sz_4 : Sz 3 (4 : Int) := Sm.sz (by unfold Sm; decide)
theorem sz_1 : Sz 1 (1 : Int) := Sm.sz (by unfold Sm; decide)
theorem sz_8 : Sz 4 (8 : Int) := Sm.sz (by unfold Sm; decide)
theorem sz_0 : Sz 0 (0 : Int) := Sm.sz (by unfold Sm; decide)
theorem sz_of {x : Int} (h0 : 0 ≤ x) (h1 : x < 2 ^ 60) : Sz 60 x := Sm.sz (by unfold Sm; omega)
theorem mL_le {v : List Int} (h : ∃ x ∈ v, x ≠ 0) : ∃ x ∈ v, (mL v).natAbs ≤ x.natAbs := by
  obtain ⟨x, m, hx⟩ := h
  exact ⟨x, m, Nat.le_of_dvd (Int.natAbs_pos.mpr hx) (Int.natAbs_dvd_natAbs.mpr (mL_dvd m))⟩
theorem sm_mL {n : Nat} (h0 : 1 ≤ n) {v : List Int} (h : ∀ x ∈ v, Sm n x) : Sm n (mL v) := by
  by_cases hz : ∃ x ∈ v, x ≠ 0
  · obtain ⟨x, m, hx⟩ := mL_le hz
    exact Nat.lt_of_le_of_lt hx (h x m)
  · have : gL v = 0 := by
      have : ∀ w : List Int, (∀ x ∈ w, x = 0) → gL w = 0 := by
        intro w
        induction w with
        | nil => intro _; rfl
        | cons y r ih =>
          intro hw
          show Nat.gcd y.natAbs (gL r) = 0
          rw [hw y List.mem_cons_self, ih fun x m => hw x (List.mem_cons_of_mem _ m)]; rfl
      exact this v fun x m => Classical.byContradiction fun q => hz ⟨x, m, q⟩
    have e : mL v = 1 := by unfold mL; rw [this]; rfl
    rw [e]
    exact Sm.one h0
theorem gMul_ok {x y : Int} (h : Sm 4000 x) (g : Sm 4000 y) : gMul (.int x) (.int y) = some (.int (x * y)) := by
  have h1 := h.log (by decide)
  have h2 := g.log (by decide)
  exact if_pos (by simp [mulOk]; omega)
theorem gDiv_ok {i m : Int} (h : 0 < m) (h2 : Sm 4000 m) : gDiv (.int i) (.int m) = some (.int (i / m)) := if_pos (by
  have := h2.log (by decide)
  simp [divOk]; omega)
theorem gMod_ok {i j : Int} (h : 0 < j) : gMod (.int i) (.int j) = some (.int (i % j)) := if_pos h
theorem gEq_int (i j : Int) : gEq (.int i) (.int j) = some (.bool (i == j)) := rfl
theorem gNe_int (i j : Int) : gNe (.int i) (.int j) = some (.bool (!(i == j))) := rfl
theorem dm_ok {i j : Int} (h : 0 < j) (h2 : Sm 1000 j) : gDivmod [.int i, .int j] = some (.tuple [.int (i / j), .int (i % j)]) := if_pos (by
  have := h2.log (by decide)
  have e : Builtin.divisionGoesByPylong i j = false := by
    unfold Builtin.divisionGoesByPylong
    have hz : (j == 0) = false := beq_eq_false_iff_ne.mpr (by omega)
    simp only [hz]
    have : ¬ (j.natAbs.log2 / 30 + 1 > 300) := by omega
    simp [this]
  unfold divmodOk
  rw [e, decide_eq_true h]; rfl)
/-! places and cuts of short rows -/
section
variable (a b c d e f : PyData)
theorem ix1_0 : atI [a] 0 = some a := rfl
theorem ix2_0 : atI [a, b] 0 = some a := rfl
theorem ix2_1 : atI [a, b] 1 = some b := rfl
theorem ix3_0 : atI [a, b, c] 0 = some a := rfl
theorem ix3_1 : atI [a, b, c] 1 = some b := rfl
theorem ix3_2 : atI [a, b, c] 2 = some c := rfl
theorem ix4_0 : atI [a, b, c, d] 0 = some a := rfl
theorem ix4_1 : atI [a, b, c, d] 1 = some b := rfl
theorem ix4_2 : atI [a, b, c, d] 2 = some c := rfl
theorem ix4_3 : atI [a, b, c, d] 3 = some d := rfl
theorem ix5_0 : atI [a, b, c, d, e] 0 = some a := rfl
theorem ix5_1 : atI [a, b, c, d, e] 1 = some b := rfl
theorem ix5_2 : atI [a, b, c, d, e] 2 = some c := rfl
theorem ix5_3 : atI [a, b, c, d, e] 3 = some d := rfl
theorem ix5_4 : atI [a, b, c, d, e] 4 = some e := rfl
theorem ix6_0 : atI [a, b, c, d, e, f] 0 = some a := rfl
theorem ix6_1 : atI [a, b, c, d, e, f] 1 = some b := rfl
theorem ix6_2 : atI [a, b, c, d, e, f] 2 = some c := rfl
theorem ix6_3 : atI [a, b, c, d, e, f] 3 = some d := rfl
theorem ix6_4 : atI [a, b, c, d, e, f] 4 = some e := rfl
theorem ix6_5 : atI [a, b, c, d, e, f] 5 = some f := rfl
theorem cut5_04 : cutD [a, b, c, d, e] none (some 4) = [a, b, c, d] := rfl
theorem cut5_14 : cutD [a, b, c, d, e] (some 1) (some 4) = [b, c, d] := rfl
theorem cut4_04 : cutD [a, b, c, d] none (some 4) = [a, b, c, d] := rfl
theorem cut4_03 : cutD [a, b, c, d] none (some 3) = [a, b, c] := rfl
theorem cut4_14 : cutD [a, b, c, d] (some 1) none = [b, c, d] := rfl
end
theorem ixN3_0 : ixN 3 0 = some 0 := rfl
theorem ixN3_1 : ixN 3 1 = some 1 := rfl
theorem ixN3_2 : ixN 3 2 = some 2 := rfl
theorem atI_in {xs : List PyData} {v : Int} (h0 : 0 ≤ v) (h1 : v < (xs.length : Nat)) : ∃ x, x ∈ xs ∧ atI xs v = some x := by
  have hl : v.toNat < xs.length := by omega
  refine ⟨xs[v.toNat], List.getElem_mem hl, ?_⟩
  unfold atI ixN
  rw [if_pos h0, if_pos h1]
  exact List.getElem?_eq_getElem hl
/-! data that are short, and written out -/
def SOk (x : Str) : Prop := ∀ c ∈ x.cps.toList, c < 0x110000
theorem SOk.app {x y : Str} (h : SOk x) (g : SOk y) : SOk (x ++ y) := fun c m => by
  rcases PyProof.Rows.mem_cps_append.mp m with m | m
  · exact h c m
  · exact g c m
theorem SOk.str (s : String) : SOk (Str.ofString s) := fun c m => by
  rw [PyProof.Rows.signs_ofString] at m
  obtain ⟨k, _, rfl⟩ := List.mem_map.mp m
  exact k.valid.elim (fun h => by have : k.toNat < 0xd800 := h; omega) (fun h => h.2)
theorem SOk.from : ∀ (ts : List Str) (k : Nat) (acc : Str), SOk acc → (∀ t ∈ ts, SOk t) → SOk (textFrom k acc ts)
  | [], k, acc, h, _ => h
  | t :: r, k, acc, h, g => SOk.from r (k + 1) _ ((h.app (by split <;> exact SOk.str _)).app (g t (List.mem_cons_self ..))) fun u hu => g u (List.mem_cons_of_mem _ hu)
theorem SOk.list (ts : List Str) (g : ∀ t ∈ ts, SOk t) : SOk (listText ts) := (SOk.from ts 0 _ (SOk.str "[") g).app (SOk.str "]")
theorem SOk.join : ∀ (ts : List Str), (∀ t ∈ ts, SOk t) → SOk (Str.join ", " ts)
  | [], _ => fun c m => by cases m
  | [x], g => g x (List.mem_cons_self ..)
  | x :: y :: r, g => ((g x (List.mem_cons_self ..)).app (SOk.str ", ")).app (SOk.join (y :: r) fun u hu => g u (List.mem_cons_of_mem _ hu))
theorem SOk.tup (ts : List Str) (g : ∀ t ∈ ts, SOk t) : SOk (tupleText ts) := ((SOk.str "(").app (SOk.join ts g)).app (by split <;> exact SOk.str _)
mutual
def Nice (n : Nat) : PyData → Prop
  | .none => True
  | .bool _ => True
  | .int i => Sm n i
  | .str _ => False
  | .list ds => NiceAll n ds
  | .tuple ds => NiceAll n ds
  | .dict _ => False
def NiceAll (n : Nat) : List PyData → Prop
  | [] => True
  | d :: ds => Nice n d ∧ NiceAll n ds
end
mutual
theorem Nice.sh {n : Nat} (hn : n < 1900) : ∀ d : PyData, Nice n d → d.showable = true ∧ d.hasDict = false ∧ d.canLay0 = true ∧ SOk d.shown ∧ d.leavesShort (n + 9) = true ∧ PyData.eqv d d = true
  | .none, _ => ⟨rfl, rfl, rfl, SOk.str _, rfl, rfl⟩
  | .bool b, _ => ⟨rfl, rfl, rfl, by cases b <;> exact SOk.str _, rfl, by simp [PyData.eqv]⟩
  | .int i, h => by
    have h' : Sm n i := by simpa only [Nice] using h
    have h1 : i.natAbs.log2 < n + 1 := (h'.up (n + 1) (by omega)).log (by omega)
    refine ⟨by simp only [PyData.showable, decide_eq_true_eq]; omega, rfl, rfl, SOk.str _, ?_, by simp [PyData.eqv]⟩
    have h2 := int_text_length_le (k := n + 1) (by omega) h1
    simp only [PyData.leavesShort, decide_eq_true_eq]
    show (Str.ofString (toString i)).length ≤ n + 9
    rw [ofString_length]; omega
  | .str _, h => by simp only [Nice] at h
  | .list ds, h => by
    obtain ⟨h1, h2, h3, h4, h5, h6⟩ := NiceAll.sh hn ds (by simpa only [Nice] using h)
    exact ⟨by simpa only [PyData.showable] using h1, by simpa only [PyData.hasDict] using h2, by simpa only [PyData.canLay0] using h3, SOk.list _ h4, by simpa only [PyData.leavesShort] using h5, by simpa only [PyData.eqv] using h6⟩
  | .tuple ds, h => by
    obtain ⟨h1, h2, h3, h4, h5, h6⟩ := NiceAll.sh hn ds (by simpa only [Nice] using h)
    exact ⟨by simpa only [PyData.showable] using h1, by simpa only [PyData.hasDict] using h2, by simpa only [PyData.canLay0] using h3, SOk.tup _ h4, by simpa only [PyData.leavesShort] using h5, by simpa only [PyData.eqv] using h6⟩
  | .dict _, h => by simp only [Nice] at h
theorem NiceAll.sh {n : Nat} (hn : n < 1900) : ∀ ds : List PyData, NiceAll n ds → PyData.showableAll ds = true ∧ PyData.hasDictAll ds = false ∧ PyData.canLayAll0 ds = true ∧ (∀ t ∈ PyData.shownAll ds, SOk t) ∧ PyData.leavesShortAll (n + 9) ds = true ∧ PyData.eqvAll ds ds = true
  | [], _ => ⟨rfl, rfl, rfl, (fun t m => by simp [PyData.shownAll] at m), rfl, rfl⟩
  | d :: ds, h => by
    have h' : Nice n d ∧ NiceAll n ds := by simpa only [NiceAll] using h
    obtain ⟨h1, h2, h3, h4, h5, h6⟩ := Nice.sh hn d h'.1
    obtain ⟨g1, g2, g3, g4, g5, g6⟩ := NiceAll.sh hn ds h'.2
    refine ⟨by simp only [PyData.showableAll, h1, g1, Bool.and_self], by simp only [PyData.hasDictAll, h2, g2, Bool.or_self], by simp only [PyData.canLayAll0, h3, g3, Bool.and_self], fun t m => ?_, by simp only [PyData.leavesShortAll, h5, g5, Bool.and_self], by simp only [PyData.eqvAll, h6, g6, Bool.and_self]⟩
    rcases List.mem_cons.mp (show t ∈ d.shown :: PyData.shownAll ds from m) with rfl | m
    · exact h4
    · exact g4 t m
end
/-- what repr makes of nice data, and that it is equal to itself -/
structure Rep (d : PyData) (t : PyData) : Prop where
  r : gRepr [d] = some t
  ne : gNe t t = some (.bool false)
  eq : gEq t t = some (.bool true)
theorem eq_str {x : Str} (h : SOk x) : gEq (.str x) (.str x) = some (.bool true) ∧ gNe (.str x) (.str x) = some (.bool false) := by
  have h1 : PyData.strOk x = true := by
    unfold PyData.strOk
    rw [Array.all_eq_true']
    intro c m
    exact decide_eq_true (h c (Array.mem_toList_iff.mpr m))
  have h2 : SeqAt.shaped (.str x) = true := by
    unfold SeqAt.shaped
    rw [show (PyData.str x).canLay0 = PyData.strOk x from rfl, h1]; rfl
  unfold gEq gNe
  rw [if_pos ⟨h2, h2⟩, if_pos ⟨h2, h2⟩]
  simp only [PyData.eqv, beq_self_eq_true, Bool.not_true, and_self]
theorem rep_ok {n : Nat} {d : PyData} (h : Nice n d) (hn : n < 1900) (hb : (n + 11) * d.bulk + (n + 9) ≤ 2 ^ 24) (hd : d.depth ≤ 60) : ∃ t, Rep d t := by
  obtain ⟨h1, h2, h3, h4, h5, h6⟩ := Nice.sh hn d h
  have h7 := PyData.shown_le_bulk (n + 9) (by omega) d h5
  refine ⟨.str d.shown, if_pos ?_, (eq_str h4).2, (eq_str h4).1⟩
  unfold shownOk
  have h8 : d.shown.length ≤ sizeLine := Nat.le_trans h7 (by unfold sizeLine; exact hb)
  rw [h1, h2, decide_eq_true h8, decide_eq_true hd]; rfl
theorem shaped_ok {n : Nat} {d : PyData} (h : Nice n d) (hn : n < 1900) (hd : d.depth ≤ 64) : SeqAt.shaped d = true := by
  obtain ⟨h1, h2, h3, h4, h5, h6⟩ := Nice.sh hn d h
  unfold SeqAt.shaped
  rw [h3, decide_eq_true hd]; rfl
theorem eq_self {n : Nat} {d : PyData} (h : Nice n d) (hn : n < 1900) (hd : d.depth ≤ 64) : gEq d d = some (.bool true) ∧ gNe d d = some (.bool false) := by
  have hs := shaped_ok h hn hd
  obtain ⟨h1, h2, h3, h4, h5, h6⟩ := Nice.sh hn d h
  unfold gEq gNe
  rw [if_pos ⟨hs, hs⟩, if_pos ⟨hs, hs⟩, h6]
  exact ⟨rfl, rfl⟩
/-! rows of ints as data -/
abbrev T2 (a b : Int) : PyData := .tuple [.int a, .int b]
abbrev T3 (a b c : Int) : PyData := .tuple [.int a, .int b, .int c]
abbrev T4 (a b c d : Int) : PyData := .tuple [.int a, .int b, .int c, .int d]
abbrev T5 (a b c d e : Int) : PyData := .tuple [.int a, .int b, .int c, .int d, .int e]
abbrev L4 (a b c d : Int) : PyData := .list [.int a, .int b, .int c, .int d]
abbrev L5 (a b c d e : Int) : PyData := .list [.int a, .int b, .int c, .int d, .int e]
abbrev L3 (a b c : Int) : List PyData := [.int a, .int b, .int c]
def nts (v : List Int) : List PyData := v.map PyData.int
theorem nts_shaped : ∀ (v : List Int), PyData.canLayAll0 (nts v) = true ∧ PyData.depthAll (nts v) = 0
  | [] => ⟨rfl, rfl⟩
  | x :: v => by
    obtain ⟨h1, h2⟩ := nts_shaped v
    refine ⟨?_, ?_⟩
    · show (true && PyData.canLayAll0 (nts v)) = true
      rw [h1]; rfl
    · show max 0 (PyData.depthAll (nts v)) = 0
      rw [h2]; rfl
theorem eqv_ints : ∀ (v w : List Int), PyData.eqvAll (nts v) (nts w) = (v == w)
  | [], [] => rfl
  | [], _ :: _ => rfl
  | _ :: _, [] => rfl
  | x :: v, y :: w => by
    show (x == y && PyData.eqvAll (nts v) (nts w)) = _
    rw [eqv_ints v w]; rfl
theorem shaped_tup (v : List Int) : SeqAt.shaped (.tuple (nts v)) = true := by
  unfold SeqAt.shaped
  rw [show (PyData.tuple (nts v)).canLay0 = PyData.canLayAll0 (nts v) from rfl, (nts_shaped v).1, show (PyData.tuple (nts v)).depth = PyData.depthAll (nts v) + 1 from rfl, (nts_shaped v).2]; rfl
theorem gEq_tup (v w : List Int) : gEq (.tuple (nts v)) (.tuple (nts w)) = some (.bool (v == w)) := by
  unfold gEq
  rw [if_pos ⟨shaped_tup v, shaped_tup w⟩, show PyData.eqv (.tuple (nts v)) (.tuple (nts w)) = PyData.eqvAll (nts v) (nts w) from rfl, eqv_ints]
theorem gNe_tup (v w : List Int) : gNe (.tuple (nts v)) (.tuple (nts w)) = some (.bool (!(v == w))) := by
  unfold gNe
  rw [if_pos ⟨shaped_tup v, shaped_tup w⟩, show PyData.eqv (.tuple (nts v)) (.tuple (nts w)) = PyData.eqvAll (nts v) (nts w) from rfl, eqv_ints]
theorem gEq_T2 (a b a' b' : Int) : gEq (T2 a b) (T2 a' b') = some (.bool ([a, b] == [a', b'])) := gEq_tup [a, b] [a', b']
theorem gNe_T2 (a b a' b' : Int) : gNe (T2 a b) (T2 a' b') = some (.bool (!([a, b] == [a', b']))) := gNe_tup [a, b] [a', b']
theorem gEq_T4 (a b c d a' b' c' d' : Int) : gEq (T4 a b c d) (T4 a' b' c' d') = some (.bool ([a, b, c, d] == [a', b', c', d'])) := gEq_tup [a, b, c, d] [a', b', c', d']
theorem gNe_T4 (a b c d a' b' c' d' : Int) : gNe (T4 a b c d) (T4 a' b' c' d') = some (.bool (!([a, b, c, d] == [a', b', c', d']))) := gNe_tup [a, b, c, d] [a', b', c', d']
theorem gEq_T5 (a b c d e a' b' c' d' e' : Int) : gEq (T5 a b c d e) (T5 a' b' c' d' e') = some (.bool ([a, b, c, d, e] == [a', b', c', d', e'])) := gEq_tup [a, b, c, d, e] [a', b', c', d', e']
theorem gNe_T5 (a b c d e a' b' c' d' e' : Int) : gNe (T5 a b c d e) (T5 a' b' c' d' e') = some (.bool (!([a, b, c, d, e] == [a', b', c', d', e']))) := gNe_tup [a, b, c, d, e] [a', b', c', d', e']
theorem intsOf_map : ∀ v : List Int, intsOf (v.map PyData.int) = some v
  | [] => rfl
  | x :: v => by
    show (intsOf (v.map PyData.int)).map (x :: ·) = _
    rw [intsOf_map v]; rfl
theorem boolsOf_map : ∀ v : List Bool, boolsOf (v.map PyData.bool) = some v
  | [] => rfl
  | x :: v => by
    show (boolsOf (v.map PyData.bool)).map (x :: ·) = _
    rw [boolsOf_map v]; rfl
theorem seq_nx {a b : FS} {st st1 : Sta} (h : a st = some (.nx st1)) : fSeq a b st = b st1 := by unfold fSeq; rw [h]; rfl
theorem seq_rt {a b : FS} {st : Sta} {r : RV} {c : Cs} (h : a st = some (.rt r c)) : fSeq a b st = some (.rt r c) := by unfold fSeq; rw [h]; rfl
end PL


set_option Elab.async false
set_option linter.all false
set_option maxRecDepth 100000
set_option maxHeartbeats 400000
namespace PL
open PySem PySem.Spec L2 DL
open PyProof.Rows hiding St
def b_is_whole : FS := (fRet (fUn (gTyIs "int") (fVar 0)))
def F_is_whole : FnS := mkF 1 1 0 b_is_whole
def b_is_row : FS := (fRet (fAndV (fUn (gTyIs "tuple") (fVar 0)) (fAndV (fOp gEq (fBi gLen (fConsA (fVar 0) fNilA)) (fVar 1)) (fBi gAll (fConsA (fOfL (fLc (fIt (fVar 0)) (aName 2) fYes (fCall F_is_whole (fConsA (fVar 2) fNilA)) [2])) fNilA)))))
def F_is_row : FnS := mkF 2 3 0 b_is_row
def b_divisor_of : FS := (fSeq (fSet 1 (fLit (.int 0)))
  (fSeq (fFor (fIt (fVar 0)) (aName 2) (fSet 1 (fBi gGcd (fConsA (fVar 1) (fConsA (fVar 2) fNilA)))))
  (fRet (fVar 1))))
def F_divisor_of : FnS := mkF 1 3 0 b_divisor_of
def b_is_reduced_row : FS := (fRet (fAndV (fCall F_is_row (fConsA (fVar 0) (fConsA (fVar 1) fNilA))) (fOp gEq (fCall F_divisor_of (fConsA (fVar 0) fNilA)) (fLit (.int 1)))))
def F_is_reduced_row : FnS := mkF 2 2 0 b_is_reduced_row
def b_reduced : FS := (fSeq (fSet 1 (fBi gMax (fConsA (fCall F_divisor_of (fConsA (fVar 0) fNilA)) (fConsA (fLit (.int 1)) fNilA))))
  (fRet (fBi gTuple (fConsA (fOfL (fLc (fIt (fVar 0)) (aName 2) fYes (fOp gDiv (fVar 2) (fVar 1)) [2])) fNilA))))
def F_reduced : FnS := mkF 1 3 0 b_reduced
def b_dot : FS := (fRet (fBi gSum (fConsA (fOfL (fLc (fZip (fConsA (fVar 0) (fConsA (fVar 1) fNilA))) (aTup 2 (aCons (aName 2) (aCons (aName 3) aNil))) fYes (fOp gMul (fVar 2) (fVar 3)) [2, 3])) fNilA)))
def F_dot : FnS := mkF 2 4 0 b_dot
def b_combined : FS := (fRet (fBi gTuple (fConsA (fOfL (fLc (fZip (fConsA (fVar 1) (fConsA (fVar 3) fNilA))) (aTup 2 (aCons (aName 4) (aCons (aName 5) aNil))) fYes (fOp gPlus (fOp gMul (fVar 0) (fVar 4)) (fOp gMul (fVar 2) (fVar 5))) [4, 5])) fNilA)))
def F_combined : FnS := mkF 4 6 0 b_combined
def b_ratio : FS := (fSeq (fSet 2 (fIf (fTru (fOp (gCmp fun i j => decide (j < i)) (fVar 1) (fLit (.int 0)))) (fBi gGcd (fConsA (fVar 0) (fConsA (fVar 1) fNilA))) (fUn gNeg (fBi gGcd (fConsA (fVar 0) (fConsA (fVar 1) fNilA))))))
  (fRet (fTup (fConsA (fOp gDiv (fVar 0) (fVar 2)) (fConsA (fOp gDiv (fVar 1) (fVar 2)) fNilA)))))
def F_ratio : FnS := mkF 2 3 0 b_ratio
def b_is_fraction : FS := (fRet (fAndV (fCall F_is_reduced_row (fConsA (fVar 0) (fConsA (fLit (.int 2)) fNilA))) (fOp (gCmp fun i j => decide (j < i)) (fOp gIx (fVar 0) (fLit (.int 1))) (fLit (.int 0)))))
def F_is_fraction : FnS := mkF 1 1 0 b_is_fraction
def b_check_positive_fraction : FS := (fIfS (fOrT (fNotT (fTru (fCall F_is_fraction (fConsA (fVar 0) fNilA)))) (fTru (fOp (gCmp fun i j => decide (i < j)) (fOp gIx (fVar 0) (fLit (.int 0))) (fLit (.int 0))))) fNever fSkip)
def F_check_positive_fraction : FnS := mkF 1 1 0 b_check_positive_fraction
def b_crossed : FS := (fRet (fOp gSub (fOp gMul (fOp gIx (fVar 0) (fLit (.int 0))) (fOp gIx (fVar 1) (fLit (.int 0)))) (fCall F_dot (fConsA (fSl (fVar 0) (fPart (fLit (.int 1))) fNoPart) (fConsA (fSl (fVar 1) (fPart (fLit (.int 1))) fNoPart) fNilA)))))
def F_crossed : FnS := mkF 2 2 0 b_crossed
def b_in_cone : FS := (fRet (fAndV (fOp (gCmp fun i j => decide (j ≤ i)) (fOp gIx (fVar 0) (fLit (.int 0))) (fLit (.int 0))) (fOp (gCmp fun i j => decide (j ≤ i)) (fCall F_crossed (fConsA (fVar 0) (fConsA (fVar 0) fNilA))) (fLit (.int 0)))))
def F_in_cone : FnS := mkF 1 1 0 b_in_cone
def b_is_light : FS := (fRet (fAndV (fCall F_is_reduced_row (fConsA (fVar 0) (fConsA (fLit (.int 5)) fNilA))) (fAndV (fOp (gCmp fun i j => decide (j < i)) (fOp gIx (fVar 0) (fLit (.int 4))) (fLit (.int 0))) (fCall F_in_cone (fConsA (fSl (fVar 0) fNoPart (fPart (fLit (.int 4)))) fNilA)))))
def F_is_light : FnS := mkF 1 1 0 b_is_light
def b_is_kind : FS := (fRet (fAndV (fCall F_is_reduced_row (fConsA (fVar 0) (fConsA (fLit (.int 4)) fNilA))) (fAndV (fOp (gCmp fun i j => decide (j < i)) (fOp gIx (fVar 0) (fLit (.int 3))) (fLit (.int 0))) (fOp gEq (fCall F_dot (fConsA (fSl (fVar 0) fNoPart (fPart (fLit (.int 3)))) (fConsA (fSl (fVar 0) fNoPart (fPart (fLit (.int 3)))) fNilA))) (fOp gMul (fOp gIx (fVar 0) (fLit (.int 3))) (fOp gIx (fVar 0) (fLit (.int 3))))))))
def F_is_kind : FnS := mkF 1 1 0 b_is_kind
def b_is_look : FS := (fRet (fAndV (fCall F_is_reduced_row (fConsA (fVar 0) (fConsA (fLit (.int 4)) fNilA))) (fCall F_in_cone (fConsA (fVar 0) fNilA))))
def F_is_look : FnS := mkF 1 1 0 b_is_look
def b_check_light : FS := (fIfS (fNotT (fTru (fCall F_is_light (fConsA (fVar 0) fNilA)))) fNever fSkip)
def F_check_light : FnS := mkF 1 1 0 b_check_light
def b_check_kind : FS := (fIfS (fNotT (fTru (fCall F_is_kind (fConsA (fVar 0) fNilA)))) fNever fSkip)
def F_check_kind : FnS := mkF 1 1 0 b_check_kind
def b_check_look : FS := (fIfS (fNotT (fTru (fCall F_is_look (fConsA (fVar 0) fNilA)))) fNever fSkip)
def F_check_look : FnS := mkF 1 1 0 b_check_look
def b_read_level : FS := (fSeq (fDrop (fCall F_check_look (fConsA (fVar 0) fNilA)))
  (fSeq (fDrop (fCall F_check_light (fConsA (fVar 1) fNilA)))
  (fRet (fCall F_ratio (fConsA (fCall F_dot (fConsA (fVar 0) (fConsA (fSl (fVar 1) fNoPart (fPart (fLit (.int 4)))) fNilA))) (fConsA (fOp gIx (fVar 1) (fLit (.int 4))) fNilA))))))
def F_read_level : FnS := mkF 2 2 0 b_read_level
def b_added : FS := (fSeq (fDrop (fCall F_check_light (fConsA (fVar 0) fNilA)))
  (fSeq (fDrop (fCall F_check_light (fConsA (fVar 1) fNilA)))
  (fSeq (fSet 2 (fCall F_combined (fConsA (fOp gIx (fVar 1) (fLit (.int 4))) (fConsA (fSl (fVar 0) fNoPart (fPart (fLit (.int 4)))) (fConsA (fOp gIx (fVar 0) (fLit (.int 4))) (fConsA (fSl (fVar 1) fNoPart (fPart (fLit (.int 4)))) fNilA))))))
  (fRet (fCall F_reduced (fConsA (fTup (fStarA (fVar 2) (fConsA (fOp gMul (fOp gIx (fVar 0) (fLit (.int 4))) (fOp gIx (fVar 1) (fLit (.int 4)))) fNilA))) fNilA))))))
def F_added : FnS := mkF 2 3 0 b_added
def b_times : FS := (fSeq (fDrop (fCall F_check_light (fConsA (fVar 0) fNilA)))
  (fSeq (fDrop (fCall F_check_positive_fraction (fConsA (fVar 1) fNilA)))
  (fRet (fCall F_reduced (fConsA (fTup (fStarA (fOfL (fLc (fIt (fSl (fVar 0) fNoPart (fPart (fLit (.int 4))))) (aName 2) fYes (fOp gMul (fOp gIx (fVar 1) (fLit (.int 0))) (fVar 2)) [2])) (fConsA (fOp gMul (fOp gIx (fVar 1) (fLit (.int 1))) (fOp gIx (fVar 0) (fLit (.int 4)))) fNilA))) fNilA)))))
def F_times : FnS := mkF 2 3 0 b_times
def c__DARK : PyData := (.tuple [(.int 0), (.int 0), (.int 0), (.int 0), (.int 1)])
def b_purity : FS := (fSeq (fDrop (fCall F_check_light (fConsA (fVar 0) fNilA)))
  (fSeq (fIfS (fTru (fOp gEq (fVar 0) (fLit c__DARK))) fNever fSkip)
  (fRet (fCall F_ratio (fConsA (fCall F_dot (fConsA (fSl (fVar 0) (fPart (fLit (.int 1))) (fPart (fLit (.int 4)))) (fConsA (fSl (fVar 0) (fPart (fLit (.int 1))) (fPart (fLit (.int 4)))) fNilA))) (fConsA (fOp gMul (fOp gIx (fVar 0) (fLit (.int 0))) (fOp gIx (fVar 0) (fLit (.int 0)))) fNilA))))))
def F_purity : FnS := mkF 1 1 0 b_purity
def b_kind_of : FS := (fSeq (fDrop (fCall F_check_light (fConsA (fVar 0) fNilA)))
  (fSeq (fIfS (fOrT (fTru (fOp gEq (fVar 0) (fLit c__DARK))) (fTru (fOp (gCmp fun i j => decide (j < i)) (fCall F_crossed (fConsA (fSl (fVar 0) fNoPart (fPart (fLit (.int 4)))) (fConsA (fSl (fVar 0) fNoPart (fPart (fLit (.int 4)))) fNilA))) (fLit (.int 0))))) (fRet (fLit .none)) fSkip)
  (fRet (fCall F_reduced (fConsA (fTup (fStarA (fSl (fVar 0) (fPart (fLit (.int 1))) (fPart (fLit (.int 4)))) (fConsA (fOp gIx (fVar 0) (fLit (.int 0))) fNilA))) fNilA)))))
def F_kind_of : FnS := mkF 1 1 0 b_kind_of
def b_pure_light : FS := (fSeq (fDrop (fCall F_check_kind (fConsA (fVar 0) fNilA)))
  (fRet (fTup (fConsA (fOp gIx (fVar 0) (fLit (.int 3))) (fConsA (fOp gIx (fVar 0) (fLit (.int 0))) (fConsA (fOp gIx (fVar 0) (fLit (.int 1))) (fConsA (fOp gIx (fVar 0) (fLit (.int 2))) (fConsA (fOp gIx (fVar 0) (fLit (.int 3))) fNilA))))))))
def F_pure_light : FnS := mkF 1 1 0 b_pure_light
def b_product : FS := (fSeq (fDrop (fCall F_check_light (fConsA (fVar 0) fNilA)))
  (fSeq (fDrop (fCall F_check_light (fConsA (fVar 1) fNilA)))
  (fRet (fCall F_ratio (fConsA (fCall F_crossed (fConsA (fSl (fVar 0) fNoPart (fPart (fLit (.int 4)))) (fConsA (fSl (fVar 1) fNoPart (fPart (fLit (.int 4)))) fNilA))) (fConsA (fOp gMul (fOp gIx (fVar 0) (fLit (.int 4))) (fOp gIx (fVar 1) (fLit (.int 4)))) fNilA))))))
def F_product : FnS := mkF 2 2 0 b_product
def b__law_tap : FS := (fSeq (fSet 2 (fOp gPlus (fLit (.int 20011)) (fOp gMul (fLit (.int 6121)) (fVar 1))))
  (fSeq (fFor (fIt (fSl (fVar 0) fNoPart (fPart (fLit (.int 63))))) (aName 3) (fSet 2 (fOp gMod (fBi gInt (fConsA (fOp gPlus (fOp gPlus (fOp gMul (fVar 2) (fLit (.int 30757))) (fOp gMod (fBi gInt (fConsA (fVar 3) fNilA)) (fLit (.int 681574421)))) (fLit (.int 41))) fNilA)) (fLit (.int 1000000409)))))
  (fSeq (fSet 4 (fIf (fTru (fOp (gCmp fun i j => decide (i < j)) (fVar 1) (fBi gLen (fConsA (fVar 0) fNilA)))) (fBi gInt (fConsA (fOp gIx (fVar 0) (fVar 1)) fNilA)) (fLit (.int 0))))
  (fRetL (fLst (fConsA (fIf (fTru (fOp (gCmp fun i j => decide (j ≤ i)) (fBi gAbs (fConsA (fVar 4) fNilA)) (fOp gPow (fLit (.int 10)) (fLit (.int 18))))) (fBi gAbs (fConsA (fVar 4) fNilA)) (fLit (.int 0))) (fConsA (fOp gMod (fBi gInt (fConsA (fOp gPlus (fVar 2) (fOp gMul (fLit (.int 5)) (fOp gMod (fBi gInt (fConsA (fVar 4) fNilA)) (fLit (.int 93199987))))) fNilA)) (fLit (.int 1000000409))) (fConsA (fLit (.int 0)) fNilA))))))))
def F__law_tap : FnS := mkF 2 5 0 b__law_tap
def b__law_from : FS := (fSeq (fIfS (fTru (fOp (gCmp fun i j => decide (j < i)) (fCix 0 (fLit (.int 0))) (fLit (.int 0)))) (fSeq (fSetc2 0 (fLit (.int 0)) 3 (fBi gDivmod (fConsA (fCix 0 (fLit (.int 0))) (fConsA (fVar 1) fNilA))))
  (fRet (fVar 3))) fSkip)
  (fSeq (fSetc 0 (fLit (.int 2)) (fOp gPlus (fCix 0 (fLit (.int 2))) (fLit (.int 1))))
  (fSeq (fSet 2 (fOp gMod (fBi gInt (fConsA (fOp gPlus (fOp gPlus (fCix 0 (fLit (.int 1))) (fOp gMul (fLit (.int 70657)) (fCix 0 (fLit (.int 2))))) (fLit (.int 13))) fNilA)) (fLit (.int 1000000409))))
  (fSeq (fSetc 0 (fLit (.int 1)) (fOp gMod (fBi gInt (fConsA (fOp gPlus (fOp gMul (fVar 2) (fOp gPlus (fOp gMod (fBi gInt (fConsA (fVar 2) fNilA)) (fLit (.int 6007))) (fLit (.int 17011)))) (fOp gMul (fLit (.int 19)) (fCix 0 (fLit (.int 2))))) fNilA)) (fLit (.int 1000000409))))
  (fRet (fOp gMod (fBi gInt (fConsA (fOp gDiv (fCix 0 (fLit (.int 1))) (fLit (.int 113))) fNilA)) (fVar 1)))))))
def F__law_from : FnS := mkF 2 4 1 b__law_from
def b__law_turns : FS := (fRet (fBi gMax (fConsA (fLit (.int 2)) (fConsA (fBi gMin (fConsA (fBi gLen (fConsA (fVar 0) fNilA)) (fConsA (fVar 1) fNilA))) fNilA))))
def F__law_turns : FnS := mkF 2 2 0 b__law_turns
def b__law_pick : FS := (fRet (fOp gIx (fVar 1) (fCall F__law_from (fCelA 0 (fConsA (fBi gLen (fConsA (fVar 1) fNilA)) fNilA)))))
def F__law_pick : FnS := mkF 2 2 1 b__law_pick
def b__law_low : FS := (fSeq (fSet 1 (fCall F__law_from (fCelA 0 (fConsA (fLit (.int 10)) fNilA))))
  (fSeq (fIfS (fTru (fOp (gCmp fun i j => decide (i < j)) (fVar 1) (fLit (.int 8)))) (fRet (fOp gSub (fCall F__law_from (fCelA 0 (fConsA (fLit (.int 7)) fNilA))) (fLit (.int 3)))) fSkip)
  (fRet (fIf (fTru (fOp gEq (fVar 1) (fLit (.int 8)))) (fOp gSub (fCall F__law_from (fCelA 0 (fConsA (fLit (.int 25)) fNilA))) (fLit (.int 12))) (fOp gSub (fCall F__law_from (fCelA 0 (fConsA (fLit (.int 199)) fNilA))) (fLit (.int 99)))))))
def F__law_low : FnS := mkF 1 2 1 b__law_low
def b__law_common : FS := (fSeq (fSet 1 (fLit (.int 0)))
  (fSeq (fFor (fIt (fVar 0)) (aName 2) (fSeq (fPar 4 5 (fConsA (fVar 1) (fConsA (fBi gAbs (fConsA (fVar 2) fNilA)) fNilA)))
  (fSeq (fFor (fRng1 (fConsA (fLit (.int 3000)) fNilA)) (aName 3) (fSeq (fIfS (fTru (fOp gEq (fVar 5) (fLit (.int 0)))) (fun st => some (.bk st)) fSkip)
  (fPar 4 5 (fConsA (fVar 5) (fConsA (fOp gMod (fBi gInt (fConsA (fVar 4) fNilA)) (fVar 5)) fNilA)))))
  (fSet 1 (fVar 4)))))
  (fRet (fVar 1))))
def F__law_common : FnS := mkF 1 6 0 b__law_common
def b__law_least : FS := (fSeq (fSet 1 (fBi gMax (fConsA (fLit (.int 1)) (fConsA (fCall F__law_common (fConsA (fVar 0) fNilA)) fNilA))))
  (fRet (fBi gTuple (fConsA (fOfL (fLc (fIt (fVar 0)) (aName 2) fYes (fOp gDiv (fVar 2) (fVar 1)) [2])) fNilA))))
def F__law_least : FnS := mkF 1 3 0 b__law_least
def b__law_ratio : FS := (fSeq (fAsg (aTup 2 (aCons (aName 2) (aCons (aName 3) aNil))) (fCall F__law_least (fConsA (fTup (fConsA (fVar 0) (fConsA (fVar 1) fNilA))) fNilA)))
  (fRet (fIf (fTru (fOp (gCmp fun i j => decide (j < i)) (fVar 3) (fLit (.int 0)))) (fTup (fConsA (fVar 2) (fConsA (fVar 3) fNilA))) (fTup (fConsA (fOp gSub (fLit (.int 0)) (fVar 2)) (fConsA (fOp gSub (fLit (.int 0)) (fVar 3)) fNilA))))))
def F__law_ratio : FnS := mkF 2 4 0 b__law_ratio
def b__law_plus : FS := (fRet (fCall F__law_ratio (fConsA (fOp gPlus (fOp gMul (fOp gIx (fVar 0) (fLit (.int 0))) (fOp gIx (fVar 1) (fLit (.int 1)))) (fOp gMul (fOp gIx (fVar 1) (fLit (.int 0))) (fOp gIx (fVar 0) (fLit (.int 1))))) (fConsA (fOp gMul (fOp gIx (fVar 0) (fLit (.int 1))) (fOp gIx (fVar 1) (fLit (.int 1)))) fNilA))))
def F__law_plus : FnS := mkF 2 2 0 b__law_plus
def b__law_by : FS := (fRet (fCall F__law_ratio (fConsA (fOp gMul (fOp gIx (fVar 0) (fLit (.int 0))) (fOp gIx (fVar 1) (fLit (.int 0)))) (fConsA (fOp gMul (fOp gIx (fVar 0) (fLit (.int 1))) (fOp gIx (fVar 1) (fLit (.int 1)))) fNilA))))
def F__law_by : FnS := mkF 2 2 0 b__law_by
def b__law_root : FS := (fSeq (fAsg (aTup 2 (aCons (aName 2) (aCons (aName 3) aNil))) (fTup (fConsA (fLit (.int 0)) (fConsA (fLit (.int 1)) fNilA))))
  (fSeq (fFor (fRng1 (fConsA (fLit (.int 600)) fNilA)) (aName 1) (fSeq (fIfS (fTru (fOp (gCmp fun i j => decide (j < i)) (fOp gMul (fVar 3) (fVar 3)) (fVar 0))) (fun st => some (.bk st)) fSkip)
  (fSet 3 (fOp gMul (fVar 3) (fLit (.int 2))))))
  (fSeq (fFor (fRng1 (fConsA (fLit (.int 600)) fNilA)) (aName 1) (fSeq (fIfS (fTru (fOp (gCmp fun i j => decide (i < j)) (fOp gSub (fVar 3) (fVar 2)) (fLit (.int 2)))) (fun st => some (.bk st)) fSkip)
  (fSeq (fSet 4 (fOp gDiv (fOp gPlus (fVar 2) (fVar 3)) (fLit (.int 2))))
  (fIfS (fTru (fOp (gCmp fun i j => decide (j < i)) (fOp gMul (fVar 4) (fVar 4)) (fVar 0))) (fSet 3 (fVar 4)) (fSet 2 (fVar 4))))))
  (fRet (fVar 2)))))
def F__law_root : FnS := mkF 1 5 0 b__law_root
def b__law_are_whole : FS := (fRet (fOp gEq (fOfL (fLc (fIt (fVar 0)) (aName 1) (fOrT (fNotT (fTru (fUn (gIsi "int") (fVar 1)))) (fTru (fUn (gIsi "bool") (fVar 1)))) (fVar 1) [1])) (fOfL (fLst fNilA))))
def F__law_are_whole : FnS := mkF 1 2 0 b__law_are_whole
def b__law_is_row : FS := (fRet (fAndV (fUn (gIsi "tuple") (fVar 0)) (fAndV (fOp gEq (fBi gLen (fConsA (fVar 0) fNilA)) (fVar 1)) (fAndV (fCall F__law_are_whole (fConsA (fVar 0) fNilA)) (fOp gEq (fCall F__law_common (fConsA (fVar 0) fNilA)) (fLit (.int 1)))))))
def F__law_is_row : FnS := mkF 2 2 0 b__law_is_row
def b__law_cone : FS := (fSeq (fAsg (aTup 4 (aCons (aName 1) (aCons (aName 2) (aCons (aName 3) (aCons (aName 4) aNil))))) (fSl (fVar 0) fNoPart (fPart (fLit (.int 4)))))
  (fRet (fOp gSub (fOp gSub (fOp gSub (fOp gMul (fVar 1) (fVar 1)) (fOp gMul (fVar 2) (fVar 2))) (fOp gMul (fVar 3) (fVar 3))) (fOp gMul (fVar 4) (fVar 4)))))
def F__law_cone : FnS := mkF 1 5 0 b__law_cone
def b__law_is_shine : FS := (fRet (fAndV (fCall F__law_is_row (fConsA (fVar 0) (fConsA (fLit (.int 5)) fNilA))) (fAndV (fOp (gCmp fun i j => decide (j < i)) (fOp gIx (fVar 0) (fLit (.int 4))) (fLit (.int 0))) (fAndV (fOp (gCmp fun i j => decide (j ≤ i)) (fOp gIx (fVar 0) (fLit (.int 0))) (fLit (.int 0))) (fOp (gCmp fun i j => decide (j ≤ i)) (fCall F__law_cone (fConsA (fVar 0) fNilA)) (fLit (.int 0)))))))
def F__law_is_shine : FnS := mkF 1 1 0 b__law_is_shine
def b__law_dot : FS := (fRet (fBi gSum (fConsA (fOfL (fLc (fZip (fConsA (fVar 0) (fConsA (fVar 1) fNilA))) (aTup 2 (aCons (aName 2) (aCons (aName 3) aNil))) fYes (fOp gMul (fVar 2) (fVar 3)) [2, 3])) fNilA)))
def F__law_dot : FnS := mkF 2 4 0 b__law_dot
def b__law_hue : FS := (fSeq (fSet 1 (fCall F__law_from (fCelA 0 (fConsA (fLit (.int 9)) fNilA))))
  (fSeq (fIfS (fTru (fOp (gCmp fun i j => decide (i < j)) (fVar 1) (fLit (.int 6)))) (fRet (fOp gIx (fOfL (fLst (fConsA (fTup (fConsA (fLit (.int 1)) (fConsA (fLit (.int 0)) (fConsA (fLit (.int 0)) (fConsA (fLit (.int 1)) fNilA))))) (fConsA (fTup (fConsA (fUn gNeg (fLit (.int 1))) (fConsA (fLit (.int 0)) (fConsA (fLit (.int 0)) (fConsA (fLit (.int 1)) fNilA))))) (fConsA (fTup (fConsA (fLit (.int 0)) (fConsA (fLit (.int 1)) (fConsA (fLit (.int 0)) (fConsA (fLit (.int 1)) fNilA))))) (fConsA (fTup (fConsA (fLit (.int 0)) (fConsA (fUn gNeg (fLit (.int 1))) (fConsA (fLit (.int 0)) (fConsA (fLit (.int 1)) fNilA))))) (fConsA (fTup (fConsA (fLit (.int 0)) (fConsA (fLit (.int 0)) (fConsA (fLit (.int 1)) (fConsA (fLit (.int 1)) fNilA))))) (fConsA (fTup (fConsA (fLit (.int 0)) (fConsA (fLit (.int 0)) (fConsA (fUn gNeg (fLit (.int 1))) (fConsA (fLit (.int 1)) fNilA))))) fNilA)))))))) (fVar 1))) fSkip)
  (fSeq (fSet 2 (fCall F__law_pick (fCelA 0 (fConsA (fTup (fConsA (fLit (.int 2)) (fConsA (fLit (.int 2)) (fConsA (fLit (.int 5)) fNilA)))) fNilA))))
  (fSeq (fPar 4 5 (fConsA (fOp gSub (fCall F__law_from (fCelA 0 (fConsA (fOp gPlus (fOp gMul (fLit (.int 2)) (fVar 2)) (fLit (.int 1))) fNilA))) (fVar 2)) (fConsA (fOp gSub (fCall F__law_from (fCelA 0 (fConsA (fOp gPlus (fOp gMul (fLit (.int 2)) (fVar 2)) (fLit (.int 1))) fNilA))) (fVar 2)) fNilA)))
  (fSeq (fSet 3 (fOp gPlus (fLit (.int 1)) (fCall F__law_from (fCelA 0 (fConsA (fVar 2) fNilA)))))
  (fRet (fCall F__law_least (fConsA (fTup (fConsA (fOp gMul (fOp gMul (fLit (.int 2)) (fVar 4)) (fVar 3)) (fConsA (fOp gMul (fOp gMul (fLit (.int 2)) (fVar 5)) (fVar 3)) (fConsA (fOp gSub (fOp gSub (fOp gMul (fVar 3) (fVar 3)) (fOp gMul (fVar 4) (fVar 4))) (fOp gMul (fVar 5) (fVar 5))) (fConsA (fOp gPlus (fOp gPlus (fOp gMul (fVar 3) (fVar 3)) (fOp gMul (fVar 4) (fVar 4))) (fOp gMul (fVar 5) (fVar 5))) fNilA))))) fNilA))))))))
def F__law_hue : FnS := mkF 1 6 1 b__law_hue
def b__law_shine : FS := (fSeq (fPar 5 6 (fConsA (fCall F__law_from (fCelA 0 (fConsA (fLit (.int 9)) fNilA))) (fConsA (fOp gPlus (fLit (.int 1)) (fCall F__law_from (fCelA 0 (fConsA (fCall F__law_pick (fCelA 0 (fConsA (fTup (fConsA (fLit (.int 1)) (fConsA (fLit (.int 3)) (fConsA (fLit (.int 3)) (fConsA (fLit (.int 20)) fNilA))))) fNilA))) fNilA)))) fNilA)))
  (fSeq (fIfS (fTru (fOp gEq (fVar 5) (fLit (.int 0)))) (fRet (fTup (fConsA (fLit (.int 0)) (fConsA (fLit (.int 0)) (fConsA (fLit (.int 0)) (fConsA (fLit (.int 0)) (fConsA (fLit (.int 1)) fNilA))))))) fSkip)
  (fSeq (fIfS (fTru (fOp gEq (fVar 5) (fLit (.int 1)))) (fRet (fCall F__law_least (fConsA (fTup (fConsA (fOp gPlus (fLit (.int 1)) (fCall F__law_from (fCelA 0 (fConsA (fLit (.int 5)) fNilA)))) (fConsA (fLit (.int 0)) (fConsA (fLit (.int 0)) (fConsA (fLit (.int 0)) (fConsA (fVar 6) fNilA)))))) fNilA))) fSkip)
  (fSeq (fIfS (fTru (fOp (gCmp fun i j => decide (i < j)) (fVar 5) (fLit (.int 5)))) (fSeq (fPar 7 8 (fConsA (fCall F__law_hue (fCelA 0 fNilA)) (fConsA (fOp gPlus (fLit (.int 1)) (fCall F__law_from (fCelA 0 (fConsA (fLit (.int 4)) fNilA)))) fNilA)))
  (fRet (fCall F__law_least (fConsA (fTup (fConsA (fOp gMul (fVar 8) (fOp gIx (fVar 7) (fLit (.int 3)))) (fConsA (fOp gMul (fVar 8) (fOp gIx (fVar 7) (fLit (.int 0)))) (fConsA (fOp gMul (fVar 8) (fOp gIx (fVar 7) (fLit (.int 1)))) (fConsA (fOp gMul (fVar 8) (fOp gIx (fVar 7) (fLit (.int 2)))) (fConsA (fVar 6) fNilA)))))) fNilA)))) fSkip)
  (fSeq (fSet 1 (fTup (fConsA (fCall F__law_low (fCelA 0 fNilA)) (fConsA (fCall F__law_low (fCelA 0 fNilA)) (fConsA (fCall F__law_low (fCelA 0 fNilA)) fNilA)))))
  (fSeq (fSet 2 (fCall F__law_dot (fConsA (fVar 1) (fConsA (fVar 1) fNilA))))
  (fSeq (fSet 3 (fCall F__law_root (fConsA (fVar 2) fNilA)))
  (fSeq (fSet 4 (fOp gPlus (fOp gPlus (fVar 3) (fBi gInt (fConsA (fOp (gCmp fun i j => decide (i < j)) (fOp gMul (fVar 3) (fVar 3)) (fVar 2)) fNilA))) (fCall F__law_pick (fCelA 0 (fConsA (fTup (fConsA (fLit (.int 0)) (fConsA (fLit (.int 0)) (fConsA (fLit (.int 1)) (fConsA (fLit (.int 2)) (fConsA (fLit (.int 9)) fNilA)))))) fNilA)))))
  (fRet (fCall F__law_least (fConsA (fOp gPlus (fOp gPlus (fTup (fConsA (fVar 4) fNilA)) (fVar 1)) (fTup (fConsA (fVar 6) fNilA))) fNilA)))))))))))
def F__law_shine : FnS := mkF 1 9 1 b__law_shine
def b__law_lit : FS := (fSeq (fSet 1 (fCall F__law_shine (fCelA 0 fNilA)))
  (fRet (fIf (fTru (fOp (gCmp fun i j => decide (j < i)) (fOp gIx (fVar 1) (fLit (.int 0))) (fLit (.int 0)))) (fVar 1) (fTup (fConsA (fOp gPlus (fLit (.int 1)) (fCall F__law_from (fCelA 0 (fConsA (fLit (.int 3)) fNilA)))) (fConsA (fLit (.int 1)) (fConsA (fLit (.int 0)) (fConsA (fLit (.int 0)) (fConsA (fLit (.int 1)) fNilA)))))))))
def F__law_lit : FnS := mkF 1 2 1 b__law_lit
def b__law_eye : FS := (fSeq (fSet 1 (fCall F__law_lit (fCelA 0 fNilA)))
  (fRet (fCall F__law_least (fConsA (fSl (fVar 1) fNoPart (fPart (fLit (.int 4)))) fNilA))))
def F__law_eye : FnS := mkF 1 2 1 b__law_eye
def b__law_level : FS := (fSeq (fPar 2 3 (fConsA (fCall F__law_from (fCelA 0 (fConsA (fLit (.int 6)) fNilA))) (fConsA (fCall F__law_from (fCelA 0 (fConsA (fCall F__law_pick (fCelA 0 (fConsA (fTup (fConsA (fLit (.int 5)) (fConsA (fLit (.int 12)) (fConsA (fLit (.int 200)) fNilA)))) fNilA))) fNilA))) fNilA)))
  (fSeq (fSet 1 (fOp gPlus (fLit (.int 1)) (fCall F__law_from (fCelA 0 (fConsA (fCall F__law_pick (fCelA 0 (fConsA (fTup (fConsA (fLit (.int 1)) (fConsA (fLit (.int 4)) (fConsA (fLit (.int 20)) fNilA)))) fNilA))) fNilA)))))
  (fSeq (fIfS (fTru (fOp (gCmp fun i j => decide (i < j)) (fVar 2) (fLit (.int 2)))) (fRet (fCall F__law_ratio (fConsA (fOp gMul (fVar 3) (fVar 3)) (fConsA (fOp gMul (fVar 1) (fVar 1)) fNilA)))) fSkip)
  (fRet (fIf (fTru (fOp gEq (fVar 2) (fLit (.int 2)))) (fCall F__law_ratio (fConsA (fOp gPlus (fOp gMul (fVar 3) (fVar 3)) (fCall F__law_from (fCelA 0 (fConsA (fLit (.int 3)) fNilA)))) (fConsA (fOp gMul (fVar 1) (fVar 1)) fNilA))) (fCall F__law_ratio (fConsA (fVar 3) (fConsA (fVar 1) fNilA))))))))
def F__law_level : FnS := mkF 1 4 1 b__law_level
def b__law_kin : FS := (fSeq (fPar 3 4 (fConsA (fCall F_kind_of (fConsA (fVar 1) fNilA)) (fConsA (fCall F__law_from (fCelA 0 (fConsA (fLit (.int 4)) fNilA))) fNilA)))
  (fSeq (fIfS (fOrT (fTru (fOp gIsN (fVar 3) (fLit .none))) (fTru (fOp (gCmp fun i j => decide (j < i)) (fVar 4) (fLit (.int 1))))) (fRet (fCall F__law_shine (fCelA 0 fNilA))) fSkip)
  (fSeq (fSet 2 (fIf (fTru (fOp gEq (fVar 4) (fLit (.int 0)))) (fTup (fConsA (fOp gIx (fVar 3) (fLit (.int 3))) (fConsA (fOp gIx (fVar 3) (fLit (.int 0))) (fConsA (fOp gIx (fVar 3) (fLit (.int 1))) (fConsA (fOp gIx (fVar 3) (fLit (.int 2))) fNilA))))) (fTup (fConsA (fOp gIx (fVar 3) (fLit (.int 3))) (fConsA (fOp gSub (fLit (.int 0)) (fOp gIx (fVar 3) (fLit (.int 0)))) (fConsA (fOp gSub (fLit (.int 0)) (fOp gIx (fVar 3) (fLit (.int 1)))) (fConsA (fOp gSub (fLit (.int 0)) (fOp gIx (fVar 3) (fLit (.int 2)))) fNilA)))))))
  (fSeq (fAsg (aTup 2 (aCons (aName 5) (aCons (aName 6) aNil))) (fTup (fConsA (fOp gPlus (fLit (.int 1)) (fCall F__law_from (fCelA 0 (fConsA (fLit (.int 4)) fNilA)))) (fConsA (fOp gPlus (fLit (.int 1)) (fCall F__law_from (fCelA 0 (fConsA (fLit (.int 6)) fNilA)))) fNilA))))
  (fRet (fCall F__law_least (fConsA (fOp gPlus (fBi gTuple (fConsA (fOfL (fLc (fIt (fVar 2)) (aName 7) fYes (fOp gMul (fVar 5) (fVar 7)) [7])) fNilA)) (fTup (fConsA (fVar 6) fNilA))) fNilA)))))))
def F__law_kin : FnS := mkF 2 8 1 b__law_kin
def b__law_sum : FS := (fSeq (fSet 2 (fOfL (fLc (fZip (fConsA (fSl (fVar 0) fNoPart (fPart (fLit (.int 4)))) (fConsA (fSl (fVar 1) fNoPart (fPart (fLit (.int 4)))) fNilA))) (aTup 2 (aCons (aName 3) (aCons (aName 4) aNil))) fYes (fOp gPlus (fOp gMul (fVar 3) (fOp gIx (fVar 1) (fLit (.int 4)))) (fOp gMul (fVar 4) (fOp gIx (fVar 0) (fLit (.int 4))))) [3, 4])))
  (fRet (fCall F__law_least (fConsA (fOp gPlus (fVar 2) (fOfL (fLst (fConsA (fOp gMul (fOp gIx (fVar 0) (fLit (.int 4))) (fOp gIx (fVar 1) (fLit (.int 4)))) fNilA)))) fNilA))))
def F__law_sum : FnS := mkF 2 5 0 b__law_sum
def b__law_inner : FS := (fRet (fCall F__law_ratio (fConsA (fOp gSub (fOp gMul (fOp gIx (fVar 0) (fLit (.int 0))) (fOp gIx (fVar 1) (fLit (.int 0)))) (fCall F__law_dot (fConsA (fSl (fVar 0) (fPart (fLit (.int 1))) (fPart (fLit (.int 4)))) (fConsA (fSl (fVar 1) (fPart (fLit (.int 1))) (fPart (fLit (.int 4)))) fNilA)))) (fConsA (fOp gMul (fOp gIx (fVar 0) (fLit (.int 4))) (fOp gIx (fVar 1) (fLit (.int 4)))) fNilA))))
def F__law_inner : FnS := mkF 2 2 0 b__law_inner
def b__law_pair_right : FS := (fSeq (fPar 3 4 (fConsA (fCall F_added (fConsA (fVar 0) (fConsA (fVar 1) fNilA))) (fConsA (fCall F_product (fConsA (fVar 0) (fConsA (fVar 1) fNilA))) fNilA)))
  (fSeq (fIfS (fOrT (fNotT (fTru (fCall F__law_is_shine (fConsA (fVar 3) fNilA)))) (fTru (fOp gNe (fBi gRepr (fConsA (fOfL (fLst (fConsA (fVar 3) (fConsA (fCall F_added (fConsA (fVar 1) (fConsA (fVar 0) fNilA))) fNilA)))) fNilA)) (fBi gRepr (fConsA (fRep (fLst (fConsA (fCall F__law_sum (fConsA (fVar 0) (fConsA (fVar 1) fNilA))) fNilA)) (fLit (.int 2))) fNilA))))) (fRet (fLit (.bool false))) fSkip)
  (fSeq (fIfS (fOrT (fTru (fOp gNe (fBi gRepr (fConsA (fOfL (fLst (fConsA (fVar 4) (fConsA (fCall F_product (fConsA (fVar 1) (fConsA (fVar 0) fNilA))) fNilA)))) fNilA)) (fBi gRepr (fConsA (fRep (fLst (fConsA (fCall F__law_inner (fConsA (fVar 0) (fConsA (fVar 1) fNilA))) fNilA)) (fLit (.int 2))) fNilA)))) (fTru (fOp (gCmp fun i j => decide (i < j)) (fOp gIx (fVar 4) (fLit (.int 0))) (fLit (.int 0))))) (fRet (fLit (.bool false))) fSkip)
  (fSeq (fSet 2 (fOfL (fLst (fConsA (fCall F_kind_of (fConsA (fVar 0) fNilA)) (fConsA (fCall F_kind_of (fConsA (fVar 1) fNilA)) fNilA)))))
  (fRet (fOp gEq (fOp gEq (fOp gIx (fVar 4) (fLit (.int 0))) (fLit (.int 0))) (fOrV (fOp gEq (fOp gIx (fVar 0) (fLit (.int 0))) (fLit (.int 0))) (fOrV (fOp gEq (fOp gIx (fVar 1) (fLit (.int 0))) (fLit (.int 0))) (fAndV (fOp gNotN (fOp gIx (fVar 2) (fLit (.int 0))) (fLit .none)) (fOp gEq (fOp gIx (fVar 2) (fLit (.int 0))) (fOp gIx (fVar 2) (fLit (.int 1)))))))))))))
def F__law_pair_right : FnS := mkF 2 5 0 b__law_pair_right
def b__law_times_right : FS := (fSeq (fSet 2 (fCall F_times (fConsA (fVar 0) (fConsA (fVar 1) fNilA))))
  (fSeq (fSet 3 (fOp gPlus (fOfL (fLc (fIt (fSl (fVar 0) fNoPart (fPart (fLit (.int 4))))) (aName 4) fYes (fOp gMul (fOp gIx (fVar 1) (fLit (.int 0))) (fVar 4)) [4])) (fOfL (fLst (fConsA (fOp gMul (fOp gIx (fVar 1) (fLit (.int 1))) (fOp gIx (fVar 0) (fLit (.int 4)))) fNilA)))))
  (fSeq (fIfS (fOrT (fNotT (fTru (fCall F__law_is_shine (fConsA (fVar 2) fNilA)))) (fTru (fOp gNe (fBi gRepr (fConsA (fOfL (fLst (fConsA (fVar 2) (fConsA (fCall F_times (fConsA (fVar 0) (fConsA (fVar 1) fNilA))) fNilA)))) fNilA)) (fBi gRepr (fConsA (fRep (fLst (fConsA (fCall F__law_least (fConsA (fVar 3) fNilA)) fNilA)) (fLit (.int 2))) fNilA))))) (fRet (fLit (.bool false))) fSkip)
  (fSeq (fIfS (fOrT (fTru (fOp gEq (fOp gIx (fVar 1) (fLit (.int 0))) (fLit (.int 0)))) (fTru (fOp gEq (fOp gIx (fVar 0) (fLit (.int 0))) (fLit (.int 0))))) (fRet (fOp gEq (fVar 2) (fTup (fConsA (fLit (.int 0)) (fConsA (fLit (.int 0)) (fConsA (fLit (.int 0)) (fConsA (fLit (.int 0)) (fConsA (fLit (.int 1)) fNilA)))))))) fSkip)
  (fRet (fOp gEq (fBi gRepr (fConsA (fOfL (fLst (fConsA (fCall F_kind_of (fConsA (fVar 2) fNilA)) (fConsA (fCall F_purity (fConsA (fVar 2) fNilA)) fNilA)))) fNilA)) (fBi gRepr (fConsA (fOfL (fLst (fConsA (fCall F_kind_of (fConsA (fVar 0) fNilA)) (fConsA (fCall F_purity (fConsA (fVar 0) fNilA)) fNilA)))) fNilA))))))))
def F__law_times_right : FnS := mkF 2 5 0 b__law_times_right
def b__law_right : FS := (fSeq (fSet 1 (fCall F__law_shine (fCelA 0 fNilA)))
  (fSeq (fPar 5 6 (fConsA (fCall F__law_kin (fCelA 0 (fConsA (fVar 1) fNilA))) (fConsA (fCall F__law_kin (fCelA 0 (fConsA (fVar 1) fNilA))) fNilA)))
  (fSeq (fPar 7 8 (fConsA (fCall F__law_level (fCelA 0 fNilA)) (fConsA (fCall F__law_eye (fCelA 0 fNilA)) fNilA)))
  (fSeq (fFor (fIt (fOfL (fLst (fConsA (fTup (fConsA (fVar 1) (fConsA (fVar 5) fNilA))) (fConsA (fTup (fConsA (fVar 5) (fConsA (fVar 6) fNilA))) (fConsA (fTup (fConsA (fVar 1) (fConsA (fVar 1) fNilA))) (fConsA (fTup (fConsA (fVar 6) (fConsA (fTup (fConsA (fLit (.int 0)) (fConsA (fLit (.int 0)) (fConsA (fLit (.int 0)) (fConsA (fLit (.int 0)) (fConsA (fLit (.int 1)) fNilA)))))) fNilA))) fNilA))))))) (aTup 2 (aCons (aName 9) (aCons (aName 10) aNil))) (fIfS (fNotT (fTru (fCall F__law_pair_right (fConsA (fVar 9) (fConsA (fVar 10) fNilA))))) (fRet (fLit (.bool false))) fSkip))
  (fSeq (fIfS (fOrT (fNotT (fTru (fCall F__law_times_right (fConsA (fVar 1) (fConsA (fVar 7) fNilA))))) (fNotT (fTru (fCall F__law_times_right (fConsA (fVar 6) (fConsA (fTup (fConsA (fLit (.int 1)) (fConsA (fLit (.int 1)) fNilA))) fNilA)))))) (fRet (fLit (.bool false))) fSkip)
  (fSeq (fIfS (fNotT (fTru (fCall F__law_times_right (fConsA (fVar 5) (fConsA (fTup (fConsA (fLit (.int 0)) (fConsA (fLit (.int 1)) fNilA))) fNilA))))) (fRet (fLit (.bool false))) fSkip)
  (fSeq (fIfS (fTru (fOp gNe (fBi gRepr (fConsA (fCall F_added (fConsA (fCall F_added (fConsA (fVar 1) (fConsA (fVar 5) fNilA))) (fConsA (fVar 6) fNilA))) fNilA)) (fBi gRepr (fConsA (fCall F_added (fConsA (fVar 1) (fConsA (fCall F_added (fConsA (fVar 5) (fConsA (fVar 6) fNilA))) fNilA))) fNilA)))) (fRet (fLit (.bool false))) fSkip)
  (fSeq (fSet 2 (fCall F__law_plus (fConsA (fCall F_product (fConsA (fVar 1) (fConsA (fVar 6) fNilA))) (fConsA (fCall F_product (fConsA (fVar 5) (fConsA (fVar 6) fNilA))) fNilA))))
  (fSeq (fIfS (fTru (fOp gNe (fBi gRepr (fConsA (fCall F_product (fConsA (fCall F_added (fConsA (fVar 1) (fConsA (fVar 5) fNilA))) (fConsA (fVar 6) fNilA))) fNilA)) (fBi gRepr (fConsA (fVar 2) fNilA)))) (fRet (fLit (.bool false))) fSkip)
  (fSeq (fIfS (fTru (fOp gNe (fBi gRepr (fConsA (fCall F_product (fConsA (fCall F_times (fConsA (fVar 1) (fConsA (fVar 7) fNilA))) (fConsA (fVar 5) fNilA))) fNilA)) (fBi gRepr (fConsA (fCall F__law_by (fConsA (fVar 7) (fConsA (fCall F_product (fConsA (fVar 1) (fConsA (fVar 5) fNilA))) fNilA))) fNilA)))) (fRet (fLit (.bool false))) fSkip)
  (fSeq (fSet 3 (fCall F__law_plus (fConsA (fCall F_read_level (fConsA (fVar 8) (fConsA (fVar 1) fNilA))) (fConsA (fCall F_read_level (fConsA (fVar 8) (fConsA (fVar 5) fNilA))) fNilA))))
  (fSeq (fIfS (fTru (fOp gNe (fBi gRepr (fConsA (fCall F_read_level (fConsA (fVar 8) (fConsA (fCall F_added (fConsA (fVar 1) (fConsA (fVar 5) fNilA))) fNilA))) fNilA)) (fBi gRepr (fConsA (fVar 3) fNilA)))) (fRet (fLit (.bool false))) fSkip)
  (fSeq (fSet 4 (fCall F__law_hue (fCelA 0 fNilA)))
  (fSeq (fIfS (fTru (fOp gNe (fBi gRepr (fConsA (fCall F_product (fConsA (fCall F_pure_light (fConsA (fVar 4) fNilA)) (fConsA (fCall F_pure_light (fConsA (fVar 4) fNilA)) fNilA))) fNilA)) (fBi gRepr (fConsA (fTup (fConsA (fLit (.int 0)) (fConsA (fLit (.int 1)) fNilA))) fNilA)))) (fRet (fLit (.bool false))) fSkip)
  (fRet (fOp gEq (fBi gRepr (fConsA (fCall F_added (fConsA (fVar 1) (fConsA (fTup (fConsA (fLit (.int 0)) (fConsA (fLit (.int 0)) (fConsA (fLit (.int 0)) (fConsA (fLit (.int 0)) (fConsA (fLit (.int 1)) fNilA)))))) fNilA))) fNilA)) (fBi gRepr (fConsA (fVar 1) fNilA))))))))))))))))))
def F__law_right : FnS := mkF 1 11 1 b__law_right
def b_law : FS := (fRet (fBi gAll (fConsA (fOfL (fLc (fRng1 (fConsA (fCall F__law_turns (fConsA (fVar 0) (fConsA (fLit (.int 4)) fNilA))) fNilA)) (aName 1) fYes (fCallFr F__law_right (fCallL F__law_tap (fConsA (fVar 0) (fConsA (fVar 1) fNilA)))) [1])) fNilA)))
def F_law : FnS := mkF 1 2 0 b_law
end PL


set_option Elab.async false
set_option linter.all false
set_option maxRecDepth 100000
set_option maxHeartbeats 400000
set_option exponentiation.threshold 20000
namespace PL
open PySem PySem.Spec L2 DL
/-! wholes and ratios of the program -/
inductive IsRow (v : List Int) : PyData → Prop
  | t : IsRow v (.tuple (v.map .int))
  | l : IsRow v (.list (v.map .int))
abbrev DivB : FS := (fSet 1 (fBi gGcd (fConsA (fVar 1) (fConsA (fVar 2) fNilA))))
theorem div_for (x0 : Option SV) (c : Cs) : ∀ (v : List Int) (g : Nat) (x2 : Option SV), ∃ y2, forGo (aName 2) DivB (v.map .int) ⟨[x0, some (.dat (.int (g : Nat))), x2], c⟩ = some (.nx ⟨[x0, some (.dat (.int ((Nat.gcd g (gL v) : Nat) : Int))), y2], c⟩)
  | [], g, x2 => ⟨x2, by simp [forGo, gL]⟩
  | x :: v, g, x2 => by
    obtain ⟨y2, ih⟩ := div_for x0 c v (Nat.gcd g x.natAbs) (some (.dat (.int x)))
    refine ⟨y2, ?_⟩
    have e : DivB ⟨[x0, some (.dat (.int (g : Nat))), some (.dat (.int x))], c⟩ = some (.nx ⟨[x0, some (.dat (.int ((Nat.gcd g x.natAbs : Nat) : Int))), some (.dat (.int x))], c⟩) := by
      simp only [fZip, zipD, gSum, intsOf, List.foldl_cons, List.foldl_nil, mkF, fRet, fRetL, fRetN, fSkip, fSeq, fNever, fSet, fAsg, fNew, fIfS, fDrop, fPar, fPar3, fSetc, fSetc2, fVar, fLit, fOp, fUn, fTup, fTup.datsOf, fLst, fNilA, fConsA, fStarA, fCelA, fOfL, fTru, fAndT, fOrT, fNotT, fAndV, fOrV, fNotV, fIf, fBi, fCall, fCallL, fCallFr, fPerm, callF, celOf, celsOk, norm, aName, aNil, aCons, aTup, setD, fSl, fIt, fItL, fItT, fFor, forGo, fLc, lcGo, fYes, wipeD, fCix, fList, fSlL, fPart, fNoPart, fChain, List.length_cons, List.length_nil, List.getElem?_cons_zero, List.getElem?_cons_succ, List.getElem?_nil, List.set_cons_zero, List.set_cons_succ, List.map_cons, List.map_nil, List.cons_append, List.nil_append, List.append_nil, List.replicate, List.take_zero, List.take_nil, List.take_succ_cons, ↓bsome, ↓msome, Option.bind_some, Option.map_some, Option.bind_none, Option.map_none, Nat.sub_self, Int.cast_ofNat_Int, Nat.reduceAdd, Nat.reduceMul, Nat.reduceSub, Nat.reduceLeDiff, Nat.reduceLT, Nat.zero_add, Nat.add_zero, and_self, and_true, true_and, if_true, if_false, ↓reduceIte, ite_true, Bool.true_eq_false, Bool.false_eq_true, beq_self_eq_true, Bool.and_self, Bool.not_true, Bool.not_false, decide_true, decide_false, gLen, gTyIs, gTyNot, tyOf, gNeg, gPlus, DL.gSub, gCmp, gInt, gAbs, gTuple, gMax, gMin, gGcd, LIM, gIx, Int.natAbs_natCast]
    rw [Nat.gcd_assoc] at ih
    generalize DivB = b at e ih ⊢
    simp only [List.map_cons, forGo, aName, setD, List.set_cons_succ, List.set_cons_zero, Option.bind_some, e]
    exact ih
theorem e_div {v : List Int} {r : PyData} (h : IsRow v r) : F_divisor_of [.dat r] [] = some (.dat (.int (gL v : Nat)), []) := by
  obtain ⟨y2, e⟩ := div_for (some (.dat r)) [] v 0 none
  rw [Nat.gcd_zero_left] at e
  have e0 : b_divisor_of = (fSeq (fSet 1 (fLit (.int (0 : Nat)))) (fSeq (fFor (fIt (fVar 0)) (aName 2) DivB) (fRet (fVar 1)))) := rfl
  generalize DivB = b at e e0
  cases h <;> simp only [F_divisor_of, mkF, e0, fSeq, fSet, fLit, fFor, fIt, fVar, List.length_cons, List.length_nil, List.map_cons, List.map_nil, List.replicate, List.cons_append, List.nil_append, List.set_cons_zero, List.set_cons_succ, List.getElem?_cons_zero, List.getElem?_cons_succ, Option.bind_some, Option.map_some, e, fRet, Nat.reduceAdd, Nat.reduceSub, and_self, if_true, List.take_zero, Nat.zero_add]
theorem mL_max (v : List Int) : (if (1 : Int) > ((gL v : Nat) : Int) then (1 : Int) else ((gL v : Nat) : Int)) = mL v := by
  unfold mL; split <;> split <;> omega
theorem mL_max' (v : List Int) : (if ((gL v : Nat) : Int) > 1 then ((gL v : Nat) : Int) else 1) = mL v := by
  unfold mL; split <;> split <;> omega
theorem lc_div (x0 : Option SV) {m : Int} (hm : 0 < m) (hs : Sm 4000 m) (c : Cs) : ∀ v : List Int, lcGo (aName 2) fYes (fOp gDiv (fVar 2) (fVar 1)) [x0, some (.dat (.int m)), none] (v.map .int) c = some ((v.map (· / m)).map .int, c)
  | [] => rfl
  | x :: v => by
    have ih := lc_div x0 hm hs c v
    simp (maxDischargeDepth := 40) only [fZip, zipD, gSum, intsOf, List.foldl_cons, List.foldl_nil, mkF, fRet, fRetL, fRetN, fSkip, fSeq, fNever, fSet, fAsg, fNew, fIfS, fDrop, fPar, fPar3, fSetc, fSetc2, fVar, fLit, fOp, fUn, fTup, fTup.datsOf, fLst, fNilA, fConsA, fStarA, fCelA, fOfL, fTru, fAndT, fOrT, fNotT, fAndV, fOrV, fNotV, fIf, fBi, fCall, fCallL, fCallFr, fPerm, callF, celOf, celsOk, norm, aName, aNil, aCons, aTup, setD, fSl, fIt, fItL, fItT, fFor, forGo, fLc, lcGo, fYes, wipeD, fCix, fList, fSlL, fPart, fNoPart, fChain, List.length_cons, List.length_nil, List.getElem?_cons_zero, List.getElem?_cons_succ, List.getElem?_nil, List.set_cons_zero, List.set_cons_succ, List.map_cons, List.map_nil, List.cons_append, List.nil_append, List.append_nil, List.replicate, List.take_zero, List.take_nil, List.take_succ_cons, ↓bsome, ↓msome, Option.bind_some, Option.map_some, Option.bind_none, Option.map_none, Nat.sub_self, Int.cast_ofNat_Int, Nat.reduceAdd, Nat.reduceMul, Nat.reduceSub, Nat.reduceLeDiff, Nat.reduceLT, Nat.zero_add, Nat.add_zero, and_self, and_true, true_and, if_true, if_false, ↓reduceIte, ite_true, Bool.true_eq_false, Bool.false_eq_true, beq_self_eq_true, Bool.and_self, Bool.not_true, Bool.not_false, decide_true, decide_false, gLen, gTyIs, gTyNot, tyOf, gNeg, gPlus, DL.gSub, gCmp, gInt, gAbs, gTuple, gMax, gMin, gGcd, LIM, gIx, ix1_0, ix2_0, ix2_1, ix3_0, ix3_1, ix3_2, ix4_0, ix4_1, ix4_2, ix4_3, ix5_0, ix5_1, ix5_2, ix5_3, ix5_4, ix6_0, ix6_1, ix6_2, ix6_3, ix6_4, ix6_5, cut5_04, cut5_14, cut4_04, cut4_03, cut4_14, Sm.mul, Sm.add, Sm.sub, Sm.neg, Sm.div, Sm.lit, sz_0, sz_1, sz_2, sz_3, sz_4, sz_8, Nat.reduceDiv, Nat.reduceSub, Nat.reduceLT, Nat.reduceLeDiff, Int.reduceLT, Int.reduceNeg, Int.mul_pos, gMul_ok, gDiv_ok, gMod_ok, *, ih]
theorem e_reduced {v : List Int} {r : PyData} (h : IsRow v r) (hs : ∀ x ∈ v, Sm 4000 x) (hl : v.length ≤ 100000) : F_reduced [.dat r] [] = some (.dat (.tuple ((red v).map .int)), []) := by
  have h1 := mL_pos v
  have h2 := sm_mL (n := 4000) (by decide) hs
  have h3 := e_div h
  have h4 := lc_div (some (.dat r)) h1 h2 [] v
  have h5 : (v.map PyData.int).length ≤ 100000 := by rw [List.length_map]; exact hl
  have h6 := mL_max v
  unfold red
  cases h <;> simp only [fZip, zipD, gSum, intsOf, List.foldl_cons, List.foldl_nil, mkF, fRet, fRetL, fRetN, fSkip, fSeq, fNever, fSet, fAsg, fNew, fIfS, fDrop, fPar, fPar3, fSetc, fSetc2, fVar, fLit, fOp, fUn, fTup, fTup.datsOf, fLst, fNilA, fConsA, fStarA, fCelA, fOfL, fTru, fAndT, fOrT, fNotT, fAndV, fOrV, fNotV, fIf, fBi, fCall, fCallL, fCallFr, fPerm, callF, celOf, celsOk, norm, aName, aNil, aCons, aTup, setD, fSl, fIt, fItL, fItT, fFor, forGo, fLc, lcGo, fYes, wipeD, fCix, fList, fSlL, fPart, fNoPart, fChain, List.length_cons, List.length_nil, List.getElem?_cons_zero, List.getElem?_cons_succ, List.getElem?_nil, List.set_cons_zero, List.set_cons_succ, List.map_cons, List.map_nil, List.cons_append, List.nil_append, List.append_nil, List.replicate, List.take_zero, List.take_nil, List.take_succ_cons, ↓bsome, ↓msome, Option.bind_some, Option.map_some, Option.bind_none, Option.map_none, Nat.sub_self, Int.cast_ofNat_Int, Nat.reduceAdd, Nat.reduceMul, Nat.reduceSub, Nat.reduceLeDiff, Nat.reduceLT, Nat.zero_add, Nat.add_zero, and_self, and_true, true_and, if_true, if_false, ↓reduceIte, ite_true, Bool.true_eq_false, Bool.false_eq_true, beq_self_eq_true, Bool.and_self, Bool.not_true, Bool.not_false, decide_true, decide_false, gLen, gTyIs, gTyNot, tyOf, gNeg, gPlus, DL.gSub, gCmp, gInt, gAbs, gTuple, gMax, gMin, gGcd, LIM, gIx, F_reduced, b_reduced, h3, h6, h4, h5]
section
variable {a b c d e : Int}
theorem m2 {n : Nat} (ha : Sm n a) (hb : Sm n b) : ∀ x ∈ [a, b], Sm n x := fun x m => by
  simp only [List.mem_cons, List.not_mem_nil, or_false] at m
  rcases m with rfl | rfl <;> assumption
theorem m4 {n : Nat} (ha : Sm n a) (hb : Sm n b) (hc : Sm n c) (hd : Sm n d) : ∀ x ∈ [a, b, c, d], Sm n x := fun x m => by
  simp only [List.mem_cons, List.not_mem_nil, or_false] at m
  rcases m with rfl | rfl | rfl | rfl <;> assumption
theorem m5 {n : Nat} (ha : Sm n a) (hb : Sm n b) (hc : Sm n c) (hd : Sm n d) (he : Sm n e) : ∀ x ∈ [a, b, c, d, e], Sm n x := fun x m => by
  simp only [List.mem_cons, List.not_mem_nil, or_false] at m
  rcases m with rfl | rfl | rfl | rfl | rfl <;> assumption
end
/-- reduced rows, written out -/
abbrev R4 (a b c d : Int) : PyData := T4 (a / mL [a, b, c, d]) (b / mL [a, b, c, d]) (c / mL [a, b, c, d]) (d / mL [a, b, c, d])
abbrev R5 (a b c d e : Int) : PyData := T5 (a / mL [a, b, c, d, e]) (b / mL [a, b, c, d, e]) (c / mL [a, b, c, d, e]) (d / mL [a, b, c, d, e]) (e / mL [a, b, c, d, e])
section
variable {a b c d e : Int}
theorem e_div2 : F_divisor_of [.dat (T2 a b)] [] = some (.dat (.int (gL [a, b] : Nat)), []) := e_div (v := [a, b]) .t
theorem e_div4 : F_divisor_of [.dat (T4 a b c d)] [] = some (.dat (.int (gL [a, b, c, d] : Nat)), []) := e_div (v := [a, b, c, d]) .t
theorem e_div5 : F_divisor_of [.dat (T5 a b c d e)] [] = some (.dat (.int (gL [a, b, c, d, e] : Nat)), []) := e_div (v := [a, b, c, d, e]) .t
theorem e_red4 (ha : Sm 4000 a) (hb : Sm 4000 b) (hc : Sm 4000 c) (hd : Sm 4000 d) : F_reduced [.dat (T4 a b c d)] [] = some (.dat (R4 a b c d), []) := e_reduced (v := [a, b, c, d]) .t (m4 ha hb hc hd) (by simp)
theorem e_red5 (ha : Sm 4000 a) (hb : Sm 4000 b) (hc : Sm 4000 c) (hd : Sm 4000 d) (he : Sm 4000 e) : F_reduced [.dat (T5 a b c d e)] [] = some (.dat (R5 a b c d e), []) := e_reduced (v := [a, b, c, d, e]) .t (m5 ha hb hc hd he) (by simp)
theorem e_row2 : F_is_row [.dat (T2 a b), .dat (.int 2)] [] = some (.dat (.bool true), []) := rfl
theorem e_row4 : F_is_row [.dat (T4 a b c d), .dat (.int 4)] [] = some (.dat (.bool true), []) := rfl
theorem e_row5 : F_is_row [.dat (T5 a b c d e), .dat (.int 5)] [] = some (.dat (.bool true), []) := rfl
theorem e_rrow2 : F_is_reduced_row [.dat (T2 a b), .dat (.int 2)] [] = some (.dat (.bool ((gL [a, b] : Int) == 1)), []) := by
  simp (maxDischargeDepth := 40) only [fZip, zipD, gSum, intsOf, List.foldl_cons, List.foldl_nil, mkF, fRet, fRetL, fRetN, fSkip, fSeq, fNever, fSet, fAsg, fNew, fIfS, fDrop, fPar, fPar3, fSetc, fSetc2, fVar, fLit, fOp, fUn, fTup, fTup.datsOf, fLst, fNilA, fConsA, fStarA, fCelA, fOfL, fTru, fAndT, fOrT, fNotT, fAndV, fOrV, fNotV, fIf, fBi, fCall, fCallL, fCallFr, fPerm, callF, celOf, celsOk, norm, aName, aNil, aCons, aTup, setD, fSl, fIt, fItL, fItT, fFor, forGo, fLc, lcGo, fYes, wipeD, fCix, fList, fSlL, fPart, fNoPart, fChain, List.length_cons, List.length_nil, List.getElem?_cons_zero, List.getElem?_cons_succ, List.getElem?_nil, List.set_cons_zero, List.set_cons_succ, List.map_cons, List.map_nil, List.cons_append, List.nil_append, List.append_nil, List.replicate, List.take_zero, List.take_nil, List.take_succ_cons, ↓bsome, ↓msome, Option.bind_some, Option.map_some, Option.bind_none, Option.map_none, Nat.sub_self, Int.cast_ofNat_Int, Nat.reduceAdd, Nat.reduceMul, Nat.reduceSub, Nat.reduceLeDiff, Nat.reduceLT, Nat.zero_add, Nat.add_zero, and_self, and_true, true_and, if_true, if_false, ↓reduceIte, ite_true, Bool.true_eq_false, Bool.false_eq_true, beq_self_eq_true, Bool.and_self, Bool.not_true, Bool.not_false, decide_true, decide_false, gLen, gTyIs, gTyNot, tyOf, gNeg, gPlus, DL.gSub, gCmp, gInt, gAbs, gTuple, gMax, gMin, gGcd, LIM, gIx, ix1_0, ix2_0, ix2_1, ix3_0, ix3_1, ix3_2, ix4_0, ix4_1, ix4_2, ix4_3, ix5_0, ix5_1, ix5_2, ix5_3, ix5_4, ix6_0, ix6_1, ix6_2, ix6_3, ix6_4, ix6_5, cut5_04, cut5_14, cut4_04, cut4_03, cut4_14, Sm.mul, Sm.add, Sm.sub, Sm.neg, Sm.div, Sm.lit, sz_0, sz_1, sz_2, sz_3, sz_4, sz_8, Nat.reduceDiv, Nat.reduceSub, Nat.reduceLT, Nat.reduceLeDiff, Int.reduceLT, Int.reduceNeg, Int.mul_pos, gMul_ok, gDiv_ok, gMod_ok, *, F_is_reduced_row, b_is_reduced_row, e_row2, e_div2, gEq_int]
theorem e_rrow4 : F_is_reduced_row [.dat (T4 a b c d), .dat (.int 4)] [] = some (.dat (.bool ((gL [a, b, c, d] : Int) == 1)), []) := by
  simp (maxDischargeDepth := 40) only [fZip, zipD, gSum, intsOf, List.foldl_cons, List.foldl_nil, mkF, fRet, fRetL, fRetN, fSkip, fSeq, fNever, fSet, fAsg, fNew, fIfS, fDrop, fPar, fPar3, fSetc, fSetc2, fVar, fLit, fOp, fUn, fTup, fTup.datsOf, fLst, fNilA, fConsA, fStarA, fCelA, fOfL, fTru, fAndT, fOrT, fNotT, fAndV, fOrV, fNotV, fIf, fBi, fCall, fCallL, fCallFr, fPerm, callF, celOf, celsOk, norm, aName, aNil, aCons, aTup, setD, fSl, fIt, fItL, fItT, fFor, forGo, fLc, lcGo, fYes, wipeD, fCix, fList, fSlL, fPart, fNoPart, fChain, List.length_cons, List.length_nil, List.getElem?_cons_zero, List.getElem?_cons_succ, List.getElem?_nil, List.set_cons_zero, List.set_cons_succ, List.map_cons, List.map_nil, List.cons_append, List.nil_append, List.append_nil, List.replicate, List.take_zero, List.take_nil, List.take_succ_cons, ↓bsome, ↓msome, Option.bind_some, Option.map_some, Option.bind_none, Option.map_none, Nat.sub_self, Int.cast_ofNat_Int, Nat.reduceAdd, Nat.reduceMul, Nat.reduceSub, Nat.reduceLeDiff, Nat.reduceLT, Nat.zero_add, Nat.add_zero, and_self, and_true, true_and, if_true, if_false, ↓reduceIte, ite_true, Bool.true_eq_false, Bool.false_eq_true, beq_self_eq_true, Bool.and_self, Bool.not_true, Bool.not_false, decide_true, decide_false, gLen, gTyIs, gTyNot, tyOf, gNeg, gPlus, DL.gSub, gCmp, gInt, gAbs, gTuple, gMax, gMin, gGcd, LIM, gIx, ix1_0, ix2_0, ix2_1, ix3_0, ix3_1, ix3_2, ix4_0, ix4_1, ix4_2, ix4_3, ix5_0, ix5_1, ix5_2, ix5_3, ix5_4, ix6_0, ix6_1, ix6_2, ix6_3, ix6_4, ix6_5, cut5_04, cut5_14, cut4_04, cut4_03, cut4_14, Sm.mul, Sm.add, Sm.sub, Sm.neg, Sm.div, Sm.lit, sz_0, sz_1, sz_2, sz_3, sz_4, sz_8, Nat.reduceDiv, Nat.reduceSub, Nat.reduceLT, Nat.reduceLeDiff, Int.reduceLT, Int.reduceNeg, Int.mul_pos, gMul_ok, gDiv_ok, gMod_ok, *, F_is_reduced_row, b_is_reduced_row, e_row4, e_div4, gEq_int]
theorem e_rrow5 : F_is_reduced_row [.dat (T5 a b c d e), .dat (.int 5)] [] = some (.dat (.bool ((gL [a, b, c, d, e] : Int) == 1)), []) := by
  simp (maxDischargeDepth := 40) only [fZip, zipD, gSum, intsOf, List.foldl_cons, List.foldl_nil, mkF, fRet, fRetL, fRetN, fSkip, fSeq, fNever, fSet, fAsg, fNew, fIfS, fDrop, fPar, fPar3, fSetc, fSetc2, fVar, fLit, fOp, fUn, fTup, fTup.datsOf, fLst, fNilA, fConsA, fStarA, fCelA, fOfL, fTru, fAndT, fOrT, fNotT, fAndV, fOrV, fNotV, fIf, fBi, fCall, fCallL, fCallFr, fPerm, callF, celOf, celsOk, norm, aName, aNil, aCons, aTup, setD, fSl, fIt, fItL, fItT, fFor, forGo, fLc, lcGo, fYes, wipeD, fCix, fList, fSlL, fPart, fNoPart, fChain, List.length_cons, List.length_nil, List.getElem?_cons_zero, List.getElem?_cons_succ, List.getElem?_nil, List.set_cons_zero, List.set_cons_succ, List.map_cons, List.map_nil, List.cons_append, List.nil_append, List.append_nil, List.replicate, List.take_zero, List.take_nil, List.take_succ_cons, ↓bsome, ↓msome, Option.bind_some, Option.map_some, Option.bind_none, Option.map_none, Nat.sub_self, Int.cast_ofNat_Int, Nat.reduceAdd, Nat.reduceMul, Nat.reduceSub, Nat.reduceLeDiff, Nat.reduceLT, Nat.zero_add, Nat.add_zero, and_self, and_true, true_and, if_true, if_false, ↓reduceIte, ite_true, Bool.true_eq_false, Bool.false_eq_true, beq_self_eq_true, Bool.and_self, Bool.not_true, Bool.not_false, decide_true, decide_false, gLen, gTyIs, gTyNot, tyOf, gNeg, gPlus, DL.gSub, gCmp, gInt, gAbs, gTuple, gMax, gMin, gGcd, LIM, gIx, ix1_0, ix2_0, ix2_1, ix3_0, ix3_1, ix3_2, ix4_0, ix4_1, ix4_2, ix4_3, ix5_0, ix5_1, ix5_2, ix5_3, ix5_4, ix6_0, ix6_1, ix6_2, ix6_3, ix6_4, ix6_5, cut5_04, cut5_14, cut4_04, cut4_03, cut4_14, Sm.mul, Sm.add, Sm.sub, Sm.neg, Sm.div, Sm.lit, sz_0, sz_1, sz_2, sz_3, sz_4, sz_8, Nat.reduceDiv, Nat.reduceSub, Nat.reduceLT, Nat.reduceLeDiff, Int.reduceLT, Int.reduceNeg, Int.mul_pos, gMul_ok, gDiv_ok, gMod_ok, *, F_is_reduced_row, b_is_reduced_row, e_row5, e_div5, gEq_int]
end
section
variable {a b c d a' b' c' d' s t : Int}
theorem e_dot2 (ha : Sm 4000 a) (hb : Sm 4000 b) (ha' : Sm 4000 a') (hb' : Sm 4000 b') : F_dot [.dat (T2 a b), .dat (T2 a' b')] [] = some (.dat (.int (a * a' + b * b')), []) := by
  simp (maxDischargeDepth := 40) only [fZip, zipD, gSum, intsOf, List.foldl_cons, List.foldl_nil, mkF, fRet, fRetL, fRetN, fSkip, fSeq, fNever, fSet, fAsg, fNew, fIfS, fDrop, fPar, fPar3, fSetc, fSetc2, fVar, fLit, fOp, fUn, fTup, fTup.datsOf, fLst, fNilA, fConsA, fStarA, fCelA, fOfL, fTru, fAndT, fOrT, fNotT, fAndV, fOrV, fNotV, fIf, fBi, fCall, fCallL, fCallFr, fPerm, callF, celOf, celsOk, norm, aName, aNil, aCons, aTup, setD, fSl, fIt, fItL, fItT, fFor, forGo, fLc, lcGo, fYes, wipeD, fCix, fList, fSlL, fPart, fNoPart, fChain, List.length_cons, List.length_nil, List.getElem?_cons_zero, List.getElem?_cons_succ, List.getElem?_nil, List.set_cons_zero, List.set_cons_succ, List.map_cons, List.map_nil, List.cons_append, List.nil_append, List.append_nil, List.replicate, List.take_zero, List.take_nil, List.take_succ_cons, ↓bsome, ↓msome, Option.bind_some, Option.map_some, Option.bind_none, Option.map_none, Nat.sub_self, Int.cast_ofNat_Int, Nat.reduceAdd, Nat.reduceMul, Nat.reduceSub, Nat.reduceLeDiff, Nat.reduceLT, Nat.zero_add, Nat.add_zero, and_self, and_true, true_and, if_true, if_false, ↓reduceIte, ite_true, Bool.true_eq_false, Bool.false_eq_true, beq_self_eq_true, Bool.and_self, Bool.not_true, Bool.not_false, decide_true, decide_false, gLen, gTyIs, gTyNot, tyOf, gNeg, gPlus, DL.gSub, gCmp, gInt, gAbs, gTuple, gMax, gMin, gGcd, LIM, gIx, ix1_0, ix2_0, ix2_1, ix3_0, ix3_1, ix3_2, ix4_0, ix4_1, ix4_2, ix4_3, ix5_0, ix5_1, ix5_2, ix5_3, ix5_4, ix6_0, ix6_1, ix6_2, ix6_3, ix6_4, ix6_5, cut5_04, cut5_14, cut4_04, cut4_03, cut4_14, Sm.mul, Sm.add, Sm.sub, Sm.neg, Sm.div, Sm.lit, sz_0, sz_1, sz_2, sz_3, sz_4, sz_8, Nat.reduceDiv, Nat.reduceSub, Nat.reduceLT, Nat.reduceLeDiff, Int.reduceLT, Int.reduceNeg, Int.mul_pos, gMul_ok, gDiv_ok, gMod_ok, *, F_dot, b_dot, List.sum_cons, List.sum_nil, Int.add_zero, Int.add_assoc]
theorem e_dot3 (ha : Sm 4000 a) (hb : Sm 4000 b) (hc : Sm 4000 c) (ha' : Sm 4000 a') (hb' : Sm 4000 b') (hc' : Sm 4000 c') : F_dot [.dat (T3 a b c), .dat (T3 a' b' c')] [] = some (.dat (.int (a * a' + b * b' + c * c')), []) := by
  simp (maxDischargeDepth := 40) only [fZip, zipD, gSum, intsOf, List.foldl_cons, List.foldl_nil, mkF, fRet, fRetL, fRetN, fSkip, fSeq, fNever, fSet, fAsg, fNew, fIfS, fDrop, fPar, fPar3, fSetc, fSetc2, fVar, fLit, fOp, fUn, fTup, fTup.datsOf, fLst, fNilA, fConsA, fStarA, fCelA, fOfL, fTru, fAndT, fOrT, fNotT, fAndV, fOrV, fNotV, fIf, fBi, fCall, fCallL, fCallFr, fPerm, callF, celOf, celsOk, norm, aName, aNil, aCons, aTup, setD, fSl, fIt, fItL, fItT, fFor, forGo, fLc, lcGo, fYes, wipeD, fCix, fList, fSlL, fPart, fNoPart, fChain, List.length_cons, List.length_nil, List.getElem?_cons_zero, List.getElem?_cons_succ, List.getElem?_nil, List.set_cons_zero, List.set_cons_succ, List.map_cons, List.map_nil, List.cons_append, List.nil_append, List.append_nil, List.replicate, List.take_zero, List.take_nil, List.take_succ_cons, ↓bsome, ↓msome, Option.bind_some, Option.map_some, Option.bind_none, Option.map_none, Nat.sub_self, Int.cast_ofNat_Int, Nat.reduceAdd, Nat.reduceMul, Nat.reduceSub, Nat.reduceLeDiff, Nat.reduceLT, Nat.zero_add, Nat.add_zero, and_self, and_true, true_and, if_true, if_false, ↓reduceIte, ite_true, Bool.true_eq_false, Bool.false_eq_true, beq_self_eq_true, Bool.and_self, Bool.not_true, Bool.not_false, decide_true, decide_false, gLen, gTyIs, gTyNot, tyOf, gNeg, gPlus, DL.gSub, gCmp, gInt, gAbs, gTuple, gMax, gMin, gGcd, LIM, gIx, ix1_0, ix2_0, ix2_1, ix3_0, ix3_1, ix3_2, ix4_0, ix4_1, ix4_2, ix4_3, ix5_0, ix5_1, ix5_2, ix5_3, ix5_4, ix6_0, ix6_1, ix6_2, ix6_3, ix6_4, ix6_5, cut5_04, cut5_14, cut4_04, cut4_03, cut4_14, Sm.mul, Sm.add, Sm.sub, Sm.neg, Sm.div, Sm.lit, sz_0, sz_1, sz_2, sz_3, sz_4, sz_8, Nat.reduceDiv, Nat.reduceSub, Nat.reduceLT, Nat.reduceLeDiff, Int.reduceLT, Int.reduceNeg, Int.mul_pos, gMul_ok, gDiv_ok, gMod_ok, *, F_dot, b_dot, List.sum_cons, List.sum_nil, Int.add_zero, Int.add_assoc]
theorem e_dot4 (ha : Sm 4000 a) (hb : Sm 4000 b) (hc : Sm 4000 c) (hd : Sm 4000 d) (ha' : Sm 4000 a') (hb' : Sm 4000 b') (hc' : Sm 4000 c') (hd' : Sm 4000 d') : F_dot [.dat (T4 a b c d), .dat (T4 a' b' c' d')] [] = some (.dat (.int (a * a' + b * b' + c * c' + d * d')), []) := by
  simp (maxDischargeDepth := 40) only [fZip, zipD, gSum, intsOf, List.foldl_cons, List.foldl_nil, mkF, fRet, fRetL, fRetN, fSkip, fSeq, fNever, fSet, fAsg, fNew, fIfS, fDrop, fPar, fPar3, fSetc, fSetc2, fVar, fLit, fOp, fUn, fTup, fTup.datsOf, fLst, fNilA, fConsA, fStarA, fCelA, fOfL, fTru, fAndT, fOrT, fNotT, fAndV, fOrV, fNotV, fIf, fBi, fCall, fCallL, fCallFr, fPerm, callF, celOf, celsOk, norm, aName, aNil, aCons, aTup, setD, fSl, fIt, fItL, fItT, fFor, forGo, fLc, lcGo, fYes, wipeD, fCix, fList, fSlL, fPart, fNoPart, fChain, List.length_cons, List.length_nil, List.getElem?_cons_zero, List.getElem?_cons_succ, List.getElem?_nil, List.set_cons_zero, List.set_cons_succ, List.map_cons, List.map_nil, List.cons_append, List.nil_append, List.append_nil, List.replicate, List.take_zero, List.take_nil, List.take_succ_cons, ↓bsome, ↓msome, Option.bind_some, Option.map_some, Option.bind_none, Option.map_none, Nat.sub_self, Int.cast_ofNat_Int, Nat.reduceAdd, Nat.reduceMul, Nat.reduceSub, Nat.reduceLeDiff, Nat.reduceLT, Nat.zero_add, Nat.add_zero, and_self, and_true, true_and, if_true, if_false, ↓reduceIte, ite_true, Bool.true_eq_false, Bool.false_eq_true, beq_self_eq_true, Bool.and_self, Bool.not_true, Bool.not_false, decide_true, decide_false, gLen, gTyIs, gTyNot, tyOf, gNeg, gPlus, DL.gSub, gCmp, gInt, gAbs, gTuple, gMax, gMin, gGcd, LIM, gIx, ix1_0, ix2_0, ix2_1, ix3_0, ix3_1, ix3_2, ix4_0, ix4_1, ix4_2, ix4_3, ix5_0, ix5_1, ix5_2, ix5_3, ix5_4, ix6_0, ix6_1, ix6_2, ix6_3, ix6_4, ix6_5, cut5_04, cut5_14, cut4_04, cut4_03, cut4_14, Sm.mul, Sm.add, Sm.sub, Sm.neg, Sm.div, Sm.lit, sz_0, sz_1, sz_2, sz_3, sz_4, sz_8, Nat.reduceDiv, Nat.reduceSub, Nat.reduceLT, Nat.reduceLeDiff, Int.reduceLT, Int.reduceNeg, Int.mul_pos, gMul_ok, gDiv_ok, gMod_ok, *, F_dot, b_dot, List.sum_cons, List.sum_nil, Int.add_zero, Int.add_assoc]
theorem e_comb4 (ha : Sm 4000 a) (hb : Sm 4000 b) (hc : Sm 4000 c) (hd : Sm 4000 d) (ha' : Sm 4000 a') (hb' : Sm 4000 b') (hc' : Sm 4000 c') (hd' : Sm 4000 d') (hs : Sm 4000 s) (ht : Sm 4000 t) :
    F_combined [.dat (.int s), .dat (T4 a b c d), .dat (.int t), .dat (T4 a' b' c' d')] [] = some (.dat (T4 (s * a + t * a') (s * b + t * b') (s * c + t * c') (s * d + t * d')), []) := by
  simp (maxDischargeDepth := 40) only [fZip, zipD, gSum, intsOf, List.foldl_cons, List.foldl_nil, mkF, fRet, fRetL, fRetN, fSkip, fSeq, fNever, fSet, fAsg, fNew, fIfS, fDrop, fPar, fPar3, fSetc, fSetc2, fVar, fLit, fOp, fUn, fTup, fTup.datsOf, fLst, fNilA, fConsA, fStarA, fCelA, fOfL, fTru, fAndT, fOrT, fNotT, fAndV, fOrV, fNotV, fIf, fBi, fCall, fCallL, fCallFr, fPerm, callF, celOf, celsOk, norm, aName, aNil, aCons, aTup, setD, fSl, fIt, fItL, fItT, fFor, forGo, fLc, lcGo, fYes, wipeD, fCix, fList, fSlL, fPart, fNoPart, fChain, List.length_cons, List.length_nil, List.getElem?_cons_zero, List.getElem?_cons_succ, List.getElem?_nil, List.set_cons_zero, List.set_cons_succ, List.map_cons, List.map_nil, List.cons_append, List.nil_append, List.append_nil, List.replicate, List.take_zero, List.take_nil, List.take_succ_cons, ↓bsome, ↓msome, Option.bind_some, Option.map_some, Option.bind_none, Option.map_none, Nat.sub_self, Int.cast_ofNat_Int, Nat.reduceAdd, Nat.reduceMul, Nat.reduceSub, Nat.reduceLeDiff, Nat.reduceLT, Nat.zero_add, Nat.add_zero, and_self, and_true, true_and, if_true, if_false, ↓reduceIte, ite_true, Bool.true_eq_false, Bool.false_eq_true, beq_self_eq_true, Bool.and_self, Bool.not_true, Bool.not_false, decide_true, decide_false, gLen, gTyIs, gTyNot, tyOf, gNeg, gPlus, DL.gSub, gCmp, gInt, gAbs, gTuple, gMax, gMin, gGcd, LIM, gIx, ix1_0, ix2_0, ix2_1, ix3_0, ix3_1, ix3_2, ix4_0, ix4_1, ix4_2, ix4_3, ix5_0, ix5_1, ix5_2, ix5_3, ix5_4, ix6_0, ix6_1, ix6_2, ix6_3, ix6_4, ix6_5, cut5_04, cut5_14, cut4_04, cut4_03, cut4_14, Sm.mul, Sm.add, Sm.sub, Sm.neg, Sm.div, Sm.lit, sz_0, sz_1, sz_2, sz_3, sz_4, sz_8, Nat.reduceDiv, Nat.reduceSub, Nat.reduceLT, Nat.reduceLeDiff, Int.reduceLT, Int.reduceNeg, Int.mul_pos, gMul_ok, gDiv_ok, gMod_ok, *, F_combined, b_combined]
end
/-! ratios: p / q, q not 0 -/
def rg (p q : Int) : Int := if 0 < q then (Nat.gcd p.natAbs q.natAbs : Nat) else -((Nat.gcd p.natAbs q.natAbs : Nat) : Int)
abbrev Rt (p q : Int) : PyData := T2 (p / rg p q) (q / rg p q)
theorem e_ratio {p q : Int} (hq : 0 < q) (hp : Sm 4000 p) (hq' : Sm 4000 q) : F_ratio [.dat (.int p), .dat (.int q)] [] = some (.dat (Rt p q), []) := by
  have h1 : (0 : Int) < (Nat.gcd p.natAbs q.natAbs : Nat) := by
    have := Nat.gcd_pos_of_pos_right p.natAbs (Int.natAbs_pos.mpr (show q ≠ 0 by omega)); omega
  have h2 : Sm 4000 ((Nat.gcd p.natAbs q.natAbs : Nat) : Int) := by
    have := Nat.le_of_dvd (Int.natAbs_pos.mpr (show q ≠ 0 by omega)) (Nat.gcd_dvd_right p.natAbs q.natAbs)
    exact Nat.lt_of_le_of_lt (by rw [Int.natAbs_natCast]; exact this) hq'
  have e : rg p q = (Nat.gcd p.natAbs q.natAbs : Nat) := if_pos hq
  have hq2 : (decide (0 < q)) = true := decide_eq_true hq
  unfold Rt
  rw [e]
  simp (maxDischargeDepth := 40) only [fZip, zipD, gSum, intsOf, List.foldl_cons, List.foldl_nil, mkF, fRet, fRetL, fRetN, fSkip, fSeq, fNever, fSet, fAsg, fNew, fIfS, fDrop, fPar, fPar3, fSetc, fSetc2, fVar, fLit, fOp, fUn, fTup, fTup.datsOf, fLst, fNilA, fConsA, fStarA, fCelA, fOfL, fTru, fAndT, fOrT, fNotT, fAndV, fOrV, fNotV, fIf, fBi, fCall, fCallL, fCallFr, fPerm, callF, celOf, celsOk, norm, aName, aNil, aCons, aTup, setD, fSl, fIt, fItL, fItT, fFor, forGo, fLc, lcGo, fYes, wipeD, fCix, fList, fSlL, fPart, fNoPart, fChain, List.length_cons, List.length_nil, List.getElem?_cons_zero, List.getElem?_cons_succ, List.getElem?_nil, List.set_cons_zero, List.set_cons_succ, List.map_cons, List.map_nil, List.cons_append, List.nil_append, List.append_nil, List.replicate, List.take_zero, List.take_nil, List.take_succ_cons, ↓bsome, ↓msome, Option.bind_some, Option.map_some, Option.bind_none, Option.map_none, Nat.sub_self, Int.cast_ofNat_Int, Nat.reduceAdd, Nat.reduceMul, Nat.reduceSub, Nat.reduceLeDiff, Nat.reduceLT, Nat.zero_add, Nat.add_zero, and_self, and_true, true_and, if_true, if_false, ↓reduceIte, ite_true, Bool.true_eq_false, Bool.false_eq_true, beq_self_eq_true, Bool.and_self, Bool.not_true, Bool.not_false, decide_true, decide_false, gLen, gTyIs, gTyNot, tyOf, gNeg, gPlus, DL.gSub, gCmp, gInt, gAbs, gTuple, gMax, gMin, gGcd, LIM, gIx, ix1_0, ix2_0, ix2_1, ix3_0, ix3_1, ix3_2, ix4_0, ix4_1, ix4_2, ix4_3, ix5_0, ix5_1, ix5_2, ix5_3, ix5_4, ix6_0, ix6_1, ix6_2, ix6_3, ix6_4, ix6_5, cut5_04, cut5_14, cut4_04, cut4_03, cut4_14, Sm.mul, Sm.add, Sm.sub, Sm.neg, Sm.div, Sm.lit, sz_0, sz_1, sz_2, sz_3, sz_4, sz_8, Nat.reduceDiv, Nat.reduceSub, Nat.reduceLT, Nat.reduceLeDiff, Int.reduceLT, Int.reduceNeg, Int.mul_pos, gMul_ok, gDiv_ok, gMod_ok, *, F_ratio, b_ratio, hq2]
theorem rg_red {p q : Int} (hq : 0 < q) : [p / rg p q, q / rg p q] = red [p, q] := by
  have h1 : 0 < Nat.gcd p.natAbs q.natAbs := Nat.gcd_pos_of_pos_right p.natAbs (Int.natAbs_pos.mpr (show q ≠ 0 by omega))
  have e : mL [p, q] = rg p q := by
    have : gL [p, q] = Nat.gcd p.natAbs q.natAbs := by simp [gL]
    rw [mL_eq (by omega), this]; exact (if_pos hq).symm
  unfold red
  rw [e]; rfl
theorem rt_eq {p q p' q' : Int} (hq : 0 < q) (hq' : 0 < q') (h : p * q' = p' * q) : Rt p q = Rt p' q' := by
  have h1 : red [p, q] = red [p', q'] := red_par hq' hq (by
    simp only [List.map_cons, List.map_nil]
    rw [Int.mul_comm q' p, h, Int.mul_comm p' q, Int.mul_comm q' q])
  rw [← rg_red hq, ← rg_red hq'] at h1
  simp only [List.cons.injEq, and_true] at h1
  unfold Rt
  rw [h1.1, h1.2]
/-- a fraction -/
structure Fr (n : Nat) (p q : Int) : Prop where
  q0 : 0 < q
  one : gL [p, q] = 1
  sp : Sz n p
  sq : Sz n q
theorem rt_fr {n : Nat} {p q : Int} (hq : 0 < q) (sp : Sz n p) (sq : Sz n q) : Fr n (p / rg p q) (q / rg p q) := by
  have e := rg_red (p := p) hq
  have h1 : gL [p, q] ≠ 0 := gL_ne (x := q) (by simp) (by omega)
  have h2 := gL_red h1
  rw [← e] at h2
  refine ⟨?_, h2, sp.div, sq.div⟩
  have h3 : rg p q ∣ q := by
    unfold rg; rw [if_pos hq]
    exact Int.natAbs_dvd_natAbs.mp (by rw [Int.natAbs_natCast]; exact Nat.gcd_dvd_right ..)
  have h4 : 0 < rg p q := by
    unfold rg; rw [if_pos hq]
    have := Nat.gcd_pos_of_pos_right p.natAbs (Int.natAbs_pos.mpr (show q ≠ 0 by omega)); omega
  exact Int.ediv_pos_of_pos_of_dvd hq (by omega) h3
theorem rg_pos {p q : Int} (hq : 0 < q) : 0 < rg p q := by
  unfold rg; rw [if_pos hq]
  have := Nat.gcd_pos_of_pos_right p.natAbs (Int.natAbs_pos.mpr (show q ≠ 0 by omega)); omega
theorem rg_p {p q : Int} (hq : 0 < q) : p / rg p q * rg p q = p := Int.ediv_mul_cancel (by
  unfold rg; rw [if_pos hq]
  exact Int.natAbs_dvd_natAbs.mp (by rw [Int.natAbs_natCast]; exact Nat.gcd_dvd_left ..))
theorem rg_q {p q : Int} (hq : 0 < q) : q / rg p q * rg p q = q := Int.ediv_mul_cancel (by
  unfold rg; rw [if_pos hq]
  exact Int.natAbs_dvd_natAbs.mp (by rw [Int.natAbs_natCast]; exact Nat.gcd_dvd_right ..))
theorem one_eq {v : List Int} (h : gL v = 1) : (((gL v : Nat) : Int) == 1) = true := by rw [h]; rfl
theorem e_frac {n : Nat} {p q : Int} (h : Fr n p q) : F_is_fraction [.dat (T2 p q)] [] = some (.dat (.bool true), []) := by
  have h1 := one_eq h.one
  have h2 := h.q0
  simp (maxDischargeDepth := 40) only [fZip, zipD, gSum, intsOf, List.foldl_cons, List.foldl_nil, mkF, fRet, fRetL, fRetN, fSkip, fSeq, fNever, fSet, fAsg, fNew, fIfS, fDrop, fPar, fPar3, fSetc, fSetc2, fVar, fLit, fOp, fUn, fTup, fTup.datsOf, fLst, fNilA, fConsA, fStarA, fCelA, fOfL, fTru, fAndT, fOrT, fNotT, fAndV, fOrV, fNotV, fIf, fBi, fCall, fCallL, fCallFr, fPerm, callF, celOf, celsOk, norm, aName, aNil, aCons, aTup, setD, fSl, fIt, fItL, fItT, fFor, forGo, fLc, lcGo, fYes, wipeD, fCix, fList, fSlL, fPart, fNoPart, fChain, List.length_cons, List.length_nil, List.getElem?_cons_zero, List.getElem?_cons_succ, List.getElem?_nil, List.set_cons_zero, List.set_cons_succ, List.map_cons, List.map_nil, List.cons_append, List.nil_append, List.append_nil, List.replicate, List.take_zero, List.take_nil, List.take_succ_cons, ↓bsome, ↓msome, Option.bind_some, Option.map_some, Option.bind_none, Option.map_none, Nat.sub_self, Int.cast_ofNat_Int, Nat.reduceAdd, Nat.reduceMul, Nat.reduceSub, Nat.reduceLeDiff, Nat.reduceLT, Nat.zero_add, Nat.add_zero, and_self, and_true, true_and, if_true, if_false, ↓reduceIte, ite_true, Bool.true_eq_false, Bool.false_eq_true, beq_self_eq_true, Bool.and_self, Bool.not_true, Bool.not_false, decide_true, decide_false, gLen, gTyIs, gTyNot, tyOf, gNeg, gPlus, DL.gSub, gCmp, gInt, gAbs, gTuple, gMax, gMin, gGcd, LIM, gIx, ix1_0, ix2_0, ix2_1, ix3_0, ix3_1, ix3_2, ix4_0, ix4_1, ix4_2, ix4_3, ix5_0, ix5_1, ix5_2, ix5_3, ix5_4, ix6_0, ix6_1, ix6_2, ix6_3, ix6_4, ix6_5, cut5_04, cut5_14, cut4_04, cut4_03, cut4_14, Sm.mul, Sm.add, Sm.sub, Sm.neg, Sm.div, Sm.lit, sz_0, sz_1, sz_2, sz_3, sz_4, sz_8, Nat.reduceDiv, Nat.reduceSub, Nat.reduceLT, Nat.reduceLeDiff, Int.reduceLT, Int.reduceNeg, Int.mul_pos, gMul_ok, gDiv_ok, gMod_ok, *, F_is_fraction, b_is_fraction, e_rrow2, h1, h2]
theorem e_posfrac {n : Nat} {p q : Int} (h : Fr n p q) (h0 : 0 ≤ p) : F_check_positive_fraction [.dat (T2 p q)] [] = some (.dat .none, []) := by
  have h1 : ¬ (p < 0) := by omega
  simp (maxDischargeDepth := 40) only [fZip, zipD, gSum, intsOf, List.foldl_cons, List.foldl_nil, mkF, fRet, fRetL, fRetN, fSkip, fSeq, fNever, fSet, fAsg, fNew, fIfS, fDrop, fPar, fPar3, fSetc, fSetc2, fVar, fLit, fOp, fUn, fTup, fTup.datsOf, fLst, fNilA, fConsA, fStarA, fCelA, fOfL, fTru, fAndT, fOrT, fNotT, fAndV, fOrV, fNotV, fIf, fBi, fCall, fCallL, fCallFr, fPerm, callF, celOf, celsOk, norm, aName, aNil, aCons, aTup, setD, fSl, fIt, fItL, fItT, fFor, forGo, fLc, lcGo, fYes, wipeD, fCix, fList, fSlL, fPart, fNoPart, fChain, List.length_cons, List.length_nil, List.getElem?_cons_zero, List.getElem?_cons_succ, List.getElem?_nil, List.set_cons_zero, List.set_cons_succ, List.map_cons, List.map_nil, List.cons_append, List.nil_append, List.append_nil, List.replicate, List.take_zero, List.take_nil, List.take_succ_cons, ↓bsome, ↓msome, Option.bind_some, Option.map_some, Option.bind_none, Option.map_none, Nat.sub_self, Int.cast_ofNat_Int, Nat.reduceAdd, Nat.reduceMul, Nat.reduceSub, Nat.reduceLeDiff, Nat.reduceLT, Nat.zero_add, Nat.add_zero, and_self, and_true, true_and, if_true, if_false, ↓reduceIte, ite_true, Bool.true_eq_false, Bool.false_eq_true, beq_self_eq_true, Bool.and_self, Bool.not_true, Bool.not_false, decide_true, decide_false, gLen, gTyIs, gTyNot, tyOf, gNeg, gPlus, DL.gSub, gCmp, gInt, gAbs, gTuple, gMax, gMin, gGcd, LIM, gIx, ix1_0, ix2_0, ix2_1, ix3_0, ix3_1, ix3_2, ix4_0, ix4_1, ix4_2, ix4_3, ix5_0, ix5_1, ix5_2, ix5_3, ix5_4, ix6_0, ix6_1, ix6_2, ix6_3, ix6_4, ix6_5, cut5_04, cut5_14, cut4_04, cut4_03, cut4_14, Sm.mul, Sm.add, Sm.sub, Sm.neg, Sm.div, Sm.lit, sz_0, sz_1, sz_2, sz_3, sz_4, sz_8, Nat.reduceDiv, Nat.reduceSub, Nat.reduceLT, Nat.reduceLeDiff, Int.reduceLT, Int.reduceNeg, Int.mul_pos, gMul_ok, gDiv_ok, gMod_ok, *, F_check_positive_fraction, b_check_positive_fraction, e_frac h, h1]
/-! lights -/
structure Lt (m : Nat) (i q u v n : Int) : Prop where
  i0 : 0 ≤ i
  n0 : 0 < n
  cone : 0 ≤ i * i - (q * q + u * u + v * v)
  one : gL [i, q, u, v, n] = 1
  si : Sz m i
  sq : Sz m q
  su : Sz m u
  sv : Sz m v
  sn : Sz m n
structure Kd (m : Nat) (q u v n : Int) : Prop where
  n0 : 0 < n
  sph : q * q + u * u + v * v = n * n
  one : gL [q, u, v, n] = 1
  sq : Sz m q
  su : Sz m u
  sv : Sz m v
  sn : Sz m n
structure Lk (m : Nat) (a b c d : Int) : Prop where
  a0 : 0 ≤ a
  cone : 0 ≤ a * a - (b * b + c * c + d * d)
  one : gL [a, b, c, d] = 1
  sa : Sz m a
  sb : Sz m b
  sc : Sz m c
  sd : Sz m d
section
variable {m n' : Nat} {i q u v n i' q' u' v' k' a b c d : Int}
theorem Lt.up {k : Nat} (h : Lt m i q u v n) (hk : m ≤ k) : Lt k i q u v n := ⟨h.i0, h.n0, h.cone, h.one, h.si.by k hk, h.sq.by k hk, h.su.by k hk, h.sv.by k hk, h.sn.by k hk⟩
theorem e_cross (hi : Sm 4000 i) (hq : Sm 4000 q) (hu : Sm 4000 u) (hv : Sm 4000 v) (hi' : Sm 4000 i') (hq' : Sm 4000 q') (hu' : Sm 4000 u') (hv' : Sm 4000 v') :
    F_crossed [.dat (T4 i q u v), .dat (T4 i' q' u' v')] [] = some (.dat (.int (i * i' - (q * q' + u * u' + v * v'))), []) := by
  simp (maxDischargeDepth := 40) only [fZip, zipD, gSum, intsOf, List.foldl_cons, List.foldl_nil, mkF, fRet, fRetL, fRetN, fSkip, fSeq, fNever, fSet, fAsg, fNew, fIfS, fDrop, fPar, fPar3, fSetc, fSetc2, fVar, fLit, fOp, fUn, fTup, fTup.datsOf, fLst, fNilA, fConsA, fStarA, fCelA, fOfL, fTru, fAndT, fOrT, fNotT, fAndV, fOrV, fNotV, fIf, fBi, fCall, fCallL, fCallFr, fPerm, callF, celOf, celsOk, norm, aName, aNil, aCons, aTup, setD, fSl, fIt, fItL, fItT, fFor, forGo, fLc, lcGo, fYes, wipeD, fCix, fList, fSlL, fPart, fNoPart, fChain, List.length_cons, List.length_nil, List.getElem?_cons_zero, List.getElem?_cons_succ, List.getElem?_nil, List.set_cons_zero, List.set_cons_succ, List.map_cons, List.map_nil, List.cons_append, List.nil_append, List.append_nil, List.replicate, List.take_zero, List.take_nil, List.take_succ_cons, ↓bsome, ↓msome, Option.bind_some, Option.map_some, Option.bind_none, Option.map_none, Nat.sub_self, Int.cast_ofNat_Int, Nat.reduceAdd, Nat.reduceMul, Nat.reduceSub, Nat.reduceLeDiff, Nat.reduceLT, Nat.zero_add, Nat.add_zero, and_self, and_true, true_and, if_true, if_false, ↓reduceIte, ite_true, Bool.true_eq_false, Bool.false_eq_true, beq_self_eq_true, Bool.and_self, Bool.not_true, Bool.not_false, decide_true, decide_false, gLen, gTyIs, gTyNot, tyOf, gNeg, gPlus, DL.gSub, gCmp, gInt, gAbs, gTuple, gMax, gMin, gGcd, LIM, gIx, ix1_0, ix2_0, ix2_1, ix3_0, ix3_1, ix3_2, ix4_0, ix4_1, ix4_2, ix4_3, ix5_0, ix5_1, ix5_2, ix5_3, ix5_4, ix6_0, ix6_1, ix6_2, ix6_3, ix6_4, ix6_5, cut5_04, cut5_14, cut4_04, cut4_03, cut4_14, Sm.mul, Sm.add, Sm.sub, Sm.neg, Sm.div, Sm.lit, sz_0, sz_1, sz_2, sz_3, sz_4, sz_8, Nat.reduceDiv, Nat.reduceSub, Nat.reduceLT, Nat.reduceLeDiff, Int.reduceLT, Int.reduceNeg, Int.mul_pos, gMul_ok, gDiv_ok, gMod_ok, *, F_crossed, b_crossed, e_dot3]
theorem e_cone (hi : Sm 4000 i) (hq : Sm 4000 q) (hu : Sm 4000 u) (hv : Sm 4000 v) (i0 : 0 ≤ i) (hc : 0 ≤ i * i - (q * q + u * u + v * v)) : F_in_cone [.dat (T4 i q u v)] [] = some (.dat (.bool true), []) := by
  simp (maxDischargeDepth := 40) only [fZip, zipD, gSum, intsOf, List.foldl_cons, List.foldl_nil, mkF, fRet, fRetL, fRetN, fSkip, fSeq, fNever, fSet, fAsg, fNew, fIfS, fDrop, fPar, fPar3, fSetc, fSetc2, fVar, fLit, fOp, fUn, fTup, fTup.datsOf, fLst, fNilA, fConsA, fStarA, fCelA, fOfL, fTru, fAndT, fOrT, fNotT, fAndV, fOrV, fNotV, fIf, fBi, fCall, fCallL, fCallFr, fPerm, callF, celOf, celsOk, norm, aName, aNil, aCons, aTup, setD, fSl, fIt, fItL, fItT, fFor, forGo, fLc, lcGo, fYes, wipeD, fCix, fList, fSlL, fPart, fNoPart, fChain, List.length_cons, List.length_nil, List.getElem?_cons_zero, List.getElem?_cons_succ, List.getElem?_nil, List.set_cons_zero, List.set_cons_succ, List.map_cons, List.map_nil, List.cons_append, List.nil_append, List.append_nil, List.replicate, List.take_zero, List.take_nil, List.take_succ_cons, ↓bsome, ↓msome, Option.bind_some, Option.map_some, Option.bind_none, Option.map_none, Nat.sub_self, Int.cast_ofNat_Int, Nat.reduceAdd, Nat.reduceMul, Nat.reduceSub, Nat.reduceLeDiff, Nat.reduceLT, Nat.zero_add, Nat.add_zero, and_self, and_true, true_and, if_true, if_false, ↓reduceIte, ite_true, Bool.true_eq_false, Bool.false_eq_true, beq_self_eq_true, Bool.and_self, Bool.not_true, Bool.not_false, decide_true, decide_false, gLen, gTyIs, gTyNot, tyOf, gNeg, gPlus, DL.gSub, gCmp, gInt, gAbs, gTuple, gMax, gMin, gGcd, LIM, gIx, ix1_0, ix2_0, ix2_1, ix3_0, ix3_1, ix3_2, ix4_0, ix4_1, ix4_2, ix4_3, ix5_0, ix5_1, ix5_2, ix5_3, ix5_4, ix6_0, ix6_1, ix6_2, ix6_3, ix6_4, ix6_5, cut5_04, cut5_14, cut4_04, cut4_03, cut4_14, Sm.mul, Sm.add, Sm.sub, Sm.neg, Sm.div, Sm.lit, sz_0, sz_1, sz_2, sz_3, sz_4, sz_8, Nat.reduceDiv, Nat.reduceSub, Nat.reduceLT, Nat.reduceLeDiff, Int.reduceLT, Int.reduceNeg, Int.mul_pos, gMul_ok, gDiv_ok, gMod_ok, *, F_in_cone, b_in_cone, e_cross, i0, hc]
theorem e_light (h : Lt 4000 i q u v n) : F_is_light [.dat (T5 i q u v n)] [] = some (.dat (.bool true), []) := by
  have h1 := one_eq h.one
  obtain ⟨i0, n0, hc, ho, si, sq, su, sv, sn⟩ := h
  clear ho
  simp (maxDischargeDepth := 40) only [fZip, zipD, gSum, intsOf, List.foldl_cons, List.foldl_nil, mkF, fRet, fRetL, fRetN, fSkip, fSeq, fNever, fSet, fAsg, fNew, fIfS, fDrop, fPar, fPar3, fSetc, fSetc2, fVar, fLit, fOp, fUn, fTup, fTup.datsOf, fLst, fNilA, fConsA, fStarA, fCelA, fOfL, fTru, fAndT, fOrT, fNotT, fAndV, fOrV, fNotV, fIf, fBi, fCall, fCallL, fCallFr, fPerm, callF, celOf, celsOk, norm, aName, aNil, aCons, aTup, setD, fSl, fIt, fItL, fItT, fFor, forGo, fLc, lcGo, fYes, wipeD, fCix, fList, fSlL, fPart, fNoPart, fChain, List.length_cons, List.length_nil, List.getElem?_cons_zero, List.getElem?_cons_succ, List.getElem?_nil, List.set_cons_zero, List.set_cons_succ, List.map_cons, List.map_nil, List.cons_append, List.nil_append, List.append_nil, List.replicate, List.take_zero, List.take_nil, List.take_succ_cons, ↓bsome, ↓msome, Option.bind_some, Option.map_some, Option.bind_none, Option.map_none, Nat.sub_self, Int.cast_ofNat_Int, Nat.reduceAdd, Nat.reduceMul, Nat.reduceSub, Nat.reduceLeDiff, Nat.reduceLT, Nat.zero_add, Nat.add_zero, and_self, and_true, true_and, if_true, if_false, ↓reduceIte, ite_true, Bool.true_eq_false, Bool.false_eq_true, beq_self_eq_true, Bool.and_self, Bool.not_true, Bool.not_false, decide_true, decide_false, gLen, gTyIs, gTyNot, tyOf, gNeg, gPlus, DL.gSub, gCmp, gInt, gAbs, gTuple, gMax, gMin, gGcd, LIM, gIx, ix1_0, ix2_0, ix2_1, ix3_0, ix3_1, ix3_2, ix4_0, ix4_1, ix4_2, ix4_3, ix5_0, ix5_1, ix5_2, ix5_3, ix5_4, ix6_0, ix6_1, ix6_2, ix6_3, ix6_4, ix6_5, cut5_04, cut5_14, cut4_04, cut4_03, cut4_14, Sm.mul, Sm.add, Sm.sub, Sm.neg, Sm.div, Sm.lit, sz_0, sz_1, sz_2, sz_3, sz_4, sz_8, Nat.reduceDiv, Nat.reduceSub, Nat.reduceLT, Nat.reduceLeDiff, Int.reduceLT, Int.reduceNeg, Int.mul_pos, gMul_ok, gDiv_ok, gMod_ok, *, F_is_light, b_is_light, e_rrow5, e_cone]
theorem e_chl (h : Lt 4000 i q u v n) : F_check_light [.dat (T5 i q u v n)] [] = some (.dat .none, []) := by
  simp (maxDischargeDepth := 40) only [fZip, zipD, gSum, intsOf, List.foldl_cons, List.foldl_nil, mkF, fRet, fRetL, fRetN, fSkip, fSeq, fNever, fSet, fAsg, fNew, fIfS, fDrop, fPar, fPar3, fSetc, fSetc2, fVar, fLit, fOp, fUn, fTup, fTup.datsOf, fLst, fNilA, fConsA, fStarA, fCelA, fOfL, fTru, fAndT, fOrT, fNotT, fAndV, fOrV, fNotV, fIf, fBi, fCall, fCallL, fCallFr, fPerm, callF, celOf, celsOk, norm, aName, aNil, aCons, aTup, setD, fSl, fIt, fItL, fItT, fFor, forGo, fLc, lcGo, fYes, wipeD, fCix, fList, fSlL, fPart, fNoPart, fChain, List.length_cons, List.length_nil, List.getElem?_cons_zero, List.getElem?_cons_succ, List.getElem?_nil, List.set_cons_zero, List.set_cons_succ, List.map_cons, List.map_nil, List.cons_append, List.nil_append, List.append_nil, List.replicate, List.take_zero, List.take_nil, List.take_succ_cons, ↓bsome, ↓msome, Option.bind_some, Option.map_some, Option.bind_none, Option.map_none, Nat.sub_self, Int.cast_ofNat_Int, Nat.reduceAdd, Nat.reduceMul, Nat.reduceSub, Nat.reduceLeDiff, Nat.reduceLT, Nat.zero_add, Nat.add_zero, and_self, and_true, true_and, if_true, if_false, ↓reduceIte, ite_true, Bool.true_eq_false, Bool.false_eq_true, beq_self_eq_true, Bool.and_self, Bool.not_true, Bool.not_false, decide_true, decide_false, gLen, gTyIs, gTyNot, tyOf, gNeg, gPlus, DL.gSub, gCmp, gInt, gAbs, gTuple, gMax, gMin, gGcd, LIM, gIx, ix1_0, ix2_0, ix2_1, ix3_0, ix3_1, ix3_2, ix4_0, ix4_1, ix4_2, ix4_3, ix5_0, ix5_1, ix5_2, ix5_3, ix5_4, ix6_0, ix6_1, ix6_2, ix6_3, ix6_4, ix6_5, cut5_04, cut5_14, cut4_04, cut4_03, cut4_14, Sm.mul, Sm.add, Sm.sub, Sm.neg, Sm.div, Sm.lit, sz_0, sz_1, sz_2, sz_3, sz_4, sz_8, Nat.reduceDiv, Nat.reduceSub, Nat.reduceLT, Nat.reduceLeDiff, Int.reduceLT, Int.reduceNeg, Int.mul_pos, gMul_ok, gDiv_ok, gMod_ok, *, F_check_light, b_check_light, e_light h]
theorem e_kind (h : Kd 4000 q u v n) : F_is_kind [.dat (T4 q u v n)] [] = some (.dat (.bool true), []) := by
  have h1 := one_eq h.one
  have h4 : (q * q + u * u + v * v == n * n) = true := beq_iff_eq.mpr h.sph
  obtain ⟨n0, hs, ho, sq, su, sv, sn⟩ := h
  clear hs ho
  simp (maxDischargeDepth := 40) only [fZip, zipD, gSum, intsOf, List.foldl_cons, List.foldl_nil, mkF, fRet, fRetL, fRetN, fSkip, fSeq, fNever, fSet, fAsg, fNew, fIfS, fDrop, fPar, fPar3, fSetc, fSetc2, fVar, fLit, fOp, fUn, fTup, fTup.datsOf, fLst, fNilA, fConsA, fStarA, fCelA, fOfL, fTru, fAndT, fOrT, fNotT, fAndV, fOrV, fNotV, fIf, fBi, fCall, fCallL, fCallFr, fPerm, callF, celOf, celsOk, norm, aName, aNil, aCons, aTup, setD, fSl, fIt, fItL, fItT, fFor, forGo, fLc, lcGo, fYes, wipeD, fCix, fList, fSlL, fPart, fNoPart, fChain, List.length_cons, List.length_nil, List.getElem?_cons_zero, List.getElem?_cons_succ, List.getElem?_nil, List.set_cons_zero, List.set_cons_succ, List.map_cons, List.map_nil, List.cons_append, List.nil_append, List.append_nil, List.replicate, List.take_zero, List.take_nil, List.take_succ_cons, ↓bsome, ↓msome, Option.bind_some, Option.map_some, Option.bind_none, Option.map_none, Nat.sub_self, Int.cast_ofNat_Int, Nat.reduceAdd, Nat.reduceMul, Nat.reduceSub, Nat.reduceLeDiff, Nat.reduceLT, Nat.zero_add, Nat.add_zero, and_self, and_true, true_and, if_true, if_false, ↓reduceIte, ite_true, Bool.true_eq_false, Bool.false_eq_true, beq_self_eq_true, Bool.and_self, Bool.not_true, Bool.not_false, decide_true, decide_false, gLen, gTyIs, gTyNot, tyOf, gNeg, gPlus, DL.gSub, gCmp, gInt, gAbs, gTuple, gMax, gMin, gGcd, LIM, gIx, ix1_0, ix2_0, ix2_1, ix3_0, ix3_1, ix3_2, ix4_0, ix4_1, ix4_2, ix4_3, ix5_0, ix5_1, ix5_2, ix5_3, ix5_4, ix6_0, ix6_1, ix6_2, ix6_3, ix6_4, ix6_5, cut5_04, cut5_14, cut4_04, cut4_03, cut4_14, Sm.mul, Sm.add, Sm.sub, Sm.neg, Sm.div, Sm.lit, sz_0, sz_1, sz_2, sz_3, sz_4, sz_8, Nat.reduceDiv, Nat.reduceSub, Nat.reduceLT, Nat.reduceLeDiff, Int.reduceLT, Int.reduceNeg, Int.mul_pos, gMul_ok, gDiv_ok, gMod_ok, *, F_is_kind, b_is_kind, e_rrow4, e_dot3, gEq_int]
theorem e_chk (h : Kd 4000 q u v n) : F_check_kind [.dat (T4 q u v n)] [] = some (.dat .none, []) := by
  simp (maxDischargeDepth := 40) only [fZip, zipD, gSum, intsOf, List.foldl_cons, List.foldl_nil, mkF, fRet, fRetL, fRetN, fSkip, fSeq, fNever, fSet, fAsg, fNew, fIfS, fDrop, fPar, fPar3, fSetc, fSetc2, fVar, fLit, fOp, fUn, fTup, fTup.datsOf, fLst, fNilA, fConsA, fStarA, fCelA, fOfL, fTru, fAndT, fOrT, fNotT, fAndV, fOrV, fNotV, fIf, fBi, fCall, fCallL, fCallFr, fPerm, callF, celOf, celsOk, norm, aName, aNil, aCons, aTup, setD, fSl, fIt, fItL, fItT, fFor, forGo, fLc, lcGo, fYes, wipeD, fCix, fList, fSlL, fPart, fNoPart, fChain, List.length_cons, List.length_nil, List.getElem?_cons_zero, List.getElem?_cons_succ, List.getElem?_nil, List.set_cons_zero, List.set_cons_succ, List.map_cons, List.map_nil, List.cons_append, List.nil_append, List.append_nil, List.replicate, List.take_zero, List.take_nil, List.take_succ_cons, ↓bsome, ↓msome, Option.bind_some, Option.map_some, Option.bind_none, Option.map_none, Nat.sub_self, Int.cast_ofNat_Int, Nat.reduceAdd, Nat.reduceMul, Nat.reduceSub, Nat.reduceLeDiff, Nat.reduceLT, Nat.zero_add, Nat.add_zero, and_self, and_true, true_and, if_true, if_false, ↓reduceIte, ite_true, Bool.true_eq_false, Bool.false_eq_true, beq_self_eq_true, Bool.and_self, Bool.not_true, Bool.not_false, decide_true, decide_false, gLen, gTyIs, gTyNot, tyOf, gNeg, gPlus, DL.gSub, gCmp, gInt, gAbs, gTuple, gMax, gMin, gGcd, LIM, gIx, ix1_0, ix2_0, ix2_1, ix3_0, ix3_1, ix3_2, ix4_0, ix4_1, ix4_2, ix4_3, ix5_0, ix5_1, ix5_2, ix5_3, ix5_4, ix6_0, ix6_1, ix6_2, ix6_3, ix6_4, ix6_5, cut5_04, cut5_14, cut4_04, cut4_03, cut4_14, Sm.mul, Sm.add, Sm.sub, Sm.neg, Sm.div, Sm.lit, sz_0, sz_1, sz_2, sz_3, sz_4, sz_8, Nat.reduceDiv, Nat.reduceSub, Nat.reduceLT, Nat.reduceLeDiff, Int.reduceLT, Int.reduceNeg, Int.mul_pos, gMul_ok, gDiv_ok, gMod_ok, *, F_check_kind, b_check_kind, e_kind h]
theorem e_look (h : Lk 4000 a b c d) : F_is_look [.dat (T4 a b c d)] [] = some (.dat (.bool true), []) := by
  have h1 := one_eq h.one
  obtain ⟨a0, hc, ho, sa, sb, sc, sd⟩ := h
  clear ho
  simp (maxDischargeDepth := 40) only [fZip, zipD, gSum, intsOf, List.foldl_cons, List.foldl_nil, mkF, fRet, fRetL, fRetN, fSkip, fSeq, fNever, fSet, fAsg, fNew, fIfS, fDrop, fPar, fPar3, fSetc, fSetc2, fVar, fLit, fOp, fUn, fTup, fTup.datsOf, fLst, fNilA, fConsA, fStarA, fCelA, fOfL, fTru, fAndT, fOrT, fNotT, fAndV, fOrV, fNotV, fIf, fBi, fCall, fCallL, fCallFr, fPerm, callF, celOf, celsOk, norm, aName, aNil, aCons, aTup, setD, fSl, fIt, fItL, fItT, fFor, forGo, fLc, lcGo, fYes, wipeD, fCix, fList, fSlL, fPart, fNoPart, fChain, List.length_cons, List.length_nil, List.getElem?_cons_zero, List.getElem?_cons_succ, List.getElem?_nil, List.set_cons_zero, List.set_cons_succ, List.map_cons, List.map_nil, List.cons_append, List.nil_append, List.append_nil, List.replicate, List.take_zero, List.take_nil, List.take_succ_cons, ↓bsome, ↓msome, Option.bind_some, Option.map_some, Option.bind_none, Option.map_none, Nat.sub_self, Int.cast_ofNat_Int, Nat.reduceAdd, Nat.reduceMul, Nat.reduceSub, Nat.reduceLeDiff, Nat.reduceLT, Nat.zero_add, Nat.add_zero, and_self, and_true, true_and, if_true, if_false, ↓reduceIte, ite_true, Bool.true_eq_false, Bool.false_eq_true, beq_self_eq_true, Bool.and_self, Bool.not_true, Bool.not_false, decide_true, decide_false, gLen, gTyIs, gTyNot, tyOf, gNeg, gPlus, DL.gSub, gCmp, gInt, gAbs, gTuple, gMax, gMin, gGcd, LIM, gIx, ix1_0, ix2_0, ix2_1, ix3_0, ix3_1, ix3_2, ix4_0, ix4_1, ix4_2, ix4_3, ix5_0, ix5_1, ix5_2, ix5_3, ix5_4, ix6_0, ix6_1, ix6_2, ix6_3, ix6_4, ix6_5, cut5_04, cut5_14, cut4_04, cut4_03, cut4_14, Sm.mul, Sm.add, Sm.sub, Sm.neg, Sm.div, Sm.lit, sz_0, sz_1, sz_2, sz_3, sz_4, sz_8, Nat.reduceDiv, Nat.reduceSub, Nat.reduceLT, Nat.reduceLeDiff, Int.reduceLT, Int.reduceNeg, Int.mul_pos, gMul_ok, gDiv_ok, gMod_ok, *, F_is_look, b_is_look, e_rrow4, e_cone]
theorem e_chlk (h : Lk 4000 a b c d) : F_check_look [.dat (T4 a b c d)] [] = some (.dat .none, []) := by
  simp (maxDischargeDepth := 40) only [fZip, zipD, gSum, intsOf, List.foldl_cons, List.foldl_nil, mkF, fRet, fRetL, fRetN, fSkip, fSeq, fNever, fSet, fAsg, fNew, fIfS, fDrop, fPar, fPar3, fSetc, fSetc2, fVar, fLit, fOp, fUn, fTup, fTup.datsOf, fLst, fNilA, fConsA, fStarA, fCelA, fOfL, fTru, fAndT, fOrT, fNotT, fAndV, fOrV, fNotV, fIf, fBi, fCall, fCallL, fCallFr, fPerm, callF, celOf, celsOk, norm, aName, aNil, aCons, aTup, setD, fSl, fIt, fItL, fItT, fFor, forGo, fLc, lcGo, fYes, wipeD, fCix, fList, fSlL, fPart, fNoPart, fChain, List.length_cons, List.length_nil, List.getElem?_cons_zero, List.getElem?_cons_succ, List.getElem?_nil, List.set_cons_zero, List.set_cons_succ, List.map_cons, List.map_nil, List.cons_append, List.nil_append, List.append_nil, List.replicate, List.take_zero, List.take_nil, List.take_succ_cons, ↓bsome, ↓msome, Option.bind_some, Option.map_some, Option.bind_none, Option.map_none, Nat.sub_self, Int.cast_ofNat_Int, Nat.reduceAdd, Nat.reduceMul, Nat.reduceSub, Nat.reduceLeDiff, Nat.reduceLT, Nat.zero_add, Nat.add_zero, and_self, and_true, true_and, if_true, if_false, ↓reduceIte, ite_true, Bool.true_eq_false, Bool.false_eq_true, beq_self_eq_true, Bool.and_self, Bool.not_true, Bool.not_false, decide_true, decide_false, gLen, gTyIs, gTyNot, tyOf, gNeg, gPlus, DL.gSub, gCmp, gInt, gAbs, gTuple, gMax, gMin, gGcd, LIM, gIx, ix1_0, ix2_0, ix2_1, ix3_0, ix3_1, ix3_2, ix4_0, ix4_1, ix4_2, ix4_3, ix5_0, ix5_1, ix5_2, ix5_3, ix5_4, ix6_0, ix6_1, ix6_2, ix6_3, ix6_4, ix6_5, cut5_04, cut5_14, cut4_04, cut4_03, cut4_14, Sm.mul, Sm.add, Sm.sub, Sm.neg, Sm.div, Sm.lit, sz_0, sz_1, sz_2, sz_3, sz_4, sz_8, Nat.reduceDiv, Nat.reduceSub, Nat.reduceLT, Nat.reduceLeDiff, Int.reduceLT, Int.reduceNeg, Int.mul_pos, gMul_ok, gDiv_ok, gMod_ok, *, F_check_look, b_check_look, e_look h]
theorem e_level (h : Lk 1000 a b c d) (g : Lt 1000 i q u v n) : F_read_level [.dat (T4 a b c d), .dat (T5 i q u v n)] [] = some (.dat (Rt (a * i + b * q + c * u + d * v) n), []) := by
  obtain ⟨a0, hc, h1, sa, sb, sc, sd⟩ := h
  have e1 := e_chl (g.up (by decide : 1000 ≤ 4000))
  have e2 := e_chlk ⟨a0, hc, h1, sa.by 4000 (by decide), sb.by 4000 (by decide), sc.by 4000 (by decide), sd.by 4000 (by decide)⟩
  obtain ⟨i0, n0, gc, g1, si, sq, su, sv, sn⟩ := g
  simp (maxDischargeDepth := 40) only [fZip, zipD, gSum, intsOf, List.foldl_cons, List.foldl_nil, mkF, fRet, fRetL, fRetN, fSkip, fSeq, fNever, fSet, fAsg, fNew, fIfS, fDrop, fPar, fPar3, fSetc, fSetc2, fVar, fLit, fOp, fUn, fTup, fTup.datsOf, fLst, fNilA, fConsA, fStarA, fCelA, fOfL, fTru, fAndT, fOrT, fNotT, fAndV, fOrV, fNotV, fIf, fBi, fCall, fCallL, fCallFr, fPerm, callF, celOf, celsOk, norm, aName, aNil, aCons, aTup, setD, fSl, fIt, fItL, fItT, fFor, forGo, fLc, lcGo, fYes, wipeD, fCix, fList, fSlL, fPart, fNoPart, fChain, List.length_cons, List.length_nil, List.getElem?_cons_zero, List.getElem?_cons_succ, List.getElem?_nil, List.set_cons_zero, List.set_cons_succ, List.map_cons, List.map_nil, List.cons_append, List.nil_append, List.append_nil, List.replicate, List.take_zero, List.take_nil, List.take_succ_cons, ↓bsome, ↓msome, Option.bind_some, Option.map_some, Option.bind_none, Option.map_none, Nat.sub_self, Int.cast_ofNat_Int, Nat.reduceAdd, Nat.reduceMul, Nat.reduceSub, Nat.reduceLeDiff, Nat.reduceLT, Nat.zero_add, Nat.add_zero, and_self, and_true, true_and, if_true, if_false, ↓reduceIte, ite_true, Bool.true_eq_false, Bool.false_eq_true, beq_self_eq_true, Bool.and_self, Bool.not_true, Bool.not_false, decide_true, decide_false, gLen, gTyIs, gTyNot, tyOf, gNeg, gPlus, DL.gSub, gCmp, gInt, gAbs, gTuple, gMax, gMin, gGcd, LIM, gIx, ix1_0, ix2_0, ix2_1, ix3_0, ix3_1, ix3_2, ix4_0, ix4_1, ix4_2, ix4_3, ix5_0, ix5_1, ix5_2, ix5_3, ix5_4, ix6_0, ix6_1, ix6_2, ix6_3, ix6_4, ix6_5, cut5_04, cut5_14, cut4_04, cut4_03, cut4_14, Sm.mul, Sm.add, Sm.sub, Sm.neg, Sm.div, Sm.lit, sz_0, sz_1, sz_2, sz_3, sz_4, sz_8, Nat.reduceDiv, Nat.reduceSub, Nat.reduceLT, Nat.reduceLeDiff, Int.reduceLT, Int.reduceNeg, Int.mul_pos, gMul_ok, gDiv_ok, gMod_ok, *, F_read_level, b_read_level, e1, e2, e_dot4, e_ratio]
theorem e_added (h : Lt 1000 i q u v n) (g : Lt 1000 i' q' u' v' k') :
    F_added [.dat (T5 i q u v n), .dat (T5 i' q' u' v' k')] [] = some (.dat (R5 (k' * i + n * i') (k' * q + n * q') (k' * u + n * u') (k' * v + n * v') (n * k')), []) := by
  have e1 := e_chl (h.up (by decide : 1000 ≤ 4000))
  have e2 := e_chl (g.up (by decide : 1000 ≤ 4000))
  obtain ⟨i0, n0, hc, h1, si, sq, su, sv, sn⟩ := h
  obtain ⟨i0', n0', hc', h1', si', sq', su', sv', sn'⟩ := g
  simp (maxDischargeDepth := 40) only [fZip, zipD, gSum, intsOf, List.foldl_cons, List.foldl_nil, mkF, fRet, fRetL, fRetN, fSkip, fSeq, fNever, fSet, fAsg, fNew, fIfS, fDrop, fPar, fPar3, fSetc, fSetc2, fVar, fLit, fOp, fUn, fTup, fTup.datsOf, fLst, fNilA, fConsA, fStarA, fCelA, fOfL, fTru, fAndT, fOrT, fNotT, fAndV, fOrV, fNotV, fIf, fBi, fCall, fCallL, fCallFr, fPerm, callF, celOf, celsOk, norm, aName, aNil, aCons, aTup, setD, fSl, fIt, fItL, fItT, fFor, forGo, fLc, lcGo, fYes, wipeD, fCix, fList, fSlL, fPart, fNoPart, fChain, List.length_cons, List.length_nil, List.getElem?_cons_zero, List.getElem?_cons_succ, List.getElem?_nil, List.set_cons_zero, List.set_cons_succ, List.map_cons, List.map_nil, List.cons_append, List.nil_append, List.append_nil, List.replicate, List.take_zero, List.take_nil, List.take_succ_cons, ↓bsome, ↓msome, Option.bind_some, Option.map_some, Option.bind_none, Option.map_none, Nat.sub_self, Int.cast_ofNat_Int, Nat.reduceAdd, Nat.reduceMul, Nat.reduceSub, Nat.reduceLeDiff, Nat.reduceLT, Nat.zero_add, Nat.add_zero, and_self, and_true, true_and, if_true, if_false, ↓reduceIte, ite_true, Bool.true_eq_false, Bool.false_eq_true, beq_self_eq_true, Bool.and_self, Bool.not_true, Bool.not_false, decide_true, decide_false, gLen, gTyIs, gTyNot, tyOf, gNeg, gPlus, DL.gSub, gCmp, gInt, gAbs, gTuple, gMax, gMin, gGcd, LIM, gIx, ix1_0, ix2_0, ix2_1, ix3_0, ix3_1, ix3_2, ix4_0, ix4_1, ix4_2, ix4_3, ix5_0, ix5_1, ix5_2, ix5_3, ix5_4, ix6_0, ix6_1, ix6_2, ix6_3, ix6_4, ix6_5, cut5_04, cut5_14, cut4_04, cut4_03, cut4_14, Sm.mul, Sm.add, Sm.sub, Sm.neg, Sm.div, Sm.lit, sz_0, sz_1, sz_2, sz_3, sz_4, sz_8, Nat.reduceDiv, Nat.reduceSub, Nat.reduceLT, Nat.reduceLeDiff, Int.reduceLT, Int.reduceNeg, Int.mul_pos, gMul_ok, gDiv_ok, gMod_ok, *, F_added, b_added, e1, e2, e_comb4, e_red5]
theorem e_times {p r : Int} (h : Lt 1000 i q u v n) (g : Fr 1000 p r) (p0 : 0 ≤ p) :
    F_times [.dat (T5 i q u v n), .dat (T2 p r)] [] = some (.dat (R5 (p * i) (p * q) (p * u) (p * v) (r * n)), []) := by
  have e1 := e_chl (h.up (by decide : 1000 ≤ 4000))
  have e2 := e_posfrac g p0
  obtain ⟨i0, n0, hc, h1, si, sq, su, sv, sn⟩ := h
  obtain ⟨r0, g1, sp, sr⟩ := g
  simp (maxDischargeDepth := 40) only [fZip, zipD, gSum, intsOf, List.foldl_cons, List.foldl_nil, mkF, fRet, fRetL, fRetN, fSkip, fSeq, fNever, fSet, fAsg, fNew, fIfS, fDrop, fPar, fPar3, fSetc, fSetc2, fVar, fLit, fOp, fUn, fTup, fTup.datsOf, fLst, fNilA, fConsA, fStarA, fCelA, fOfL, fTru, fAndT, fOrT, fNotT, fAndV, fOrV, fNotV, fIf, fBi, fCall, fCallL, fCallFr, fPerm, callF, celOf, celsOk, norm, aName, aNil, aCons, aTup, setD, fSl, fIt, fItL, fItT, fFor, forGo, fLc, lcGo, fYes, wipeD, fCix, fList, fSlL, fPart, fNoPart, fChain, List.length_cons, List.length_nil, List.getElem?_cons_zero, List.getElem?_cons_succ, List.getElem?_nil, List.set_cons_zero, List.set_cons_succ, List.map_cons, List.map_nil, List.cons_append, List.nil_append, List.append_nil, List.replicate, List.take_zero, List.take_nil, List.take_succ_cons, ↓bsome, ↓msome, Option.bind_some, Option.map_some, Option.bind_none, Option.map_none, Nat.sub_self, Int.cast_ofNat_Int, Nat.reduceAdd, Nat.reduceMul, Nat.reduceSub, Nat.reduceLeDiff, Nat.reduceLT, Nat.zero_add, Nat.add_zero, and_self, and_true, true_and, if_true, if_false, ↓reduceIte, ite_true, Bool.true_eq_false, Bool.false_eq_true, beq_self_eq_true, Bool.and_self, Bool.not_true, Bool.not_false, decide_true, decide_false, gLen, gTyIs, gTyNot, tyOf, gNeg, gPlus, DL.gSub, gCmp, gInt, gAbs, gTuple, gMax, gMin, gGcd, LIM, gIx, ix1_0, ix2_0, ix2_1, ix3_0, ix3_1, ix3_2, ix4_0, ix4_1, ix4_2, ix4_3, ix5_0, ix5_1, ix5_2, ix5_3, ix5_4, ix6_0, ix6_1, ix6_2, ix6_3, ix6_4, ix6_5, cut5_04, cut5_14, cut4_04, cut4_03, cut4_14, Sm.mul, Sm.add, Sm.sub, Sm.neg, Sm.div, Sm.lit, sz_0, sz_1, sz_2, sz_3, sz_4, sz_8, Nat.reduceDiv, Nat.reduceSub, Nat.reduceLT, Nat.reduceLeDiff, Int.reduceLT, Int.reduceNeg, Int.mul_pos, gMul_ok, gDiv_ok, gMod_ok, *, F_times, b_times, e1, e2, e_red5]
theorem e_pure (h : Kd 4000 q u v n) : F_pure_light [.dat (T4 q u v n)] [] = some (.dat (T5 n q u v n), []) := by
  simp (maxDischargeDepth := 40) only [fZip, zipD, gSum, intsOf, List.foldl_cons, List.foldl_nil, mkF, fRet, fRetL, fRetN, fSkip, fSeq, fNever, fSet, fAsg, fNew, fIfS, fDrop, fPar, fPar3, fSetc, fSetc2, fVar, fLit, fOp, fUn, fTup, fTup.datsOf, fLst, fNilA, fConsA, fStarA, fCelA, fOfL, fTru, fAndT, fOrT, fNotT, fAndV, fOrV, fNotV, fIf, fBi, fCall, fCallL, fCallFr, fPerm, callF, celOf, celsOk, norm, aName, aNil, aCons, aTup, setD, fSl, fIt, fItL, fItT, fFor, forGo, fLc, lcGo, fYes, wipeD, fCix, fList, fSlL, fPart, fNoPart, fChain, List.length_cons, List.length_nil, List.getElem?_cons_zero, List.getElem?_cons_succ, List.getElem?_nil, List.set_cons_zero, List.set_cons_succ, List.map_cons, List.map_nil, List.cons_append, List.nil_append, List.append_nil, List.replicate, List.take_zero, List.take_nil, List.take_succ_cons, ↓bsome, ↓msome, Option.bind_some, Option.map_some, Option.bind_none, Option.map_none, Nat.sub_self, Int.cast_ofNat_Int, Nat.reduceAdd, Nat.reduceMul, Nat.reduceSub, Nat.reduceLeDiff, Nat.reduceLT, Nat.zero_add, Nat.add_zero, and_self, and_true, true_and, if_true, if_false, ↓reduceIte, ite_true, Bool.true_eq_false, Bool.false_eq_true, beq_self_eq_true, Bool.and_self, Bool.not_true, Bool.not_false, decide_true, decide_false, gLen, gTyIs, gTyNot, tyOf, gNeg, gPlus, DL.gSub, gCmp, gInt, gAbs, gTuple, gMax, gMin, gGcd, LIM, gIx, ix1_0, ix2_0, ix2_1, ix3_0, ix3_1, ix3_2, ix4_0, ix4_1, ix4_2, ix4_3, ix5_0, ix5_1, ix5_2, ix5_3, ix5_4, ix6_0, ix6_1, ix6_2, ix6_3, ix6_4, ix6_5, cut5_04, cut5_14, cut4_04, cut4_03, cut4_14, Sm.mul, Sm.add, Sm.sub, Sm.neg, Sm.div, Sm.lit, sz_0, sz_1, sz_2, sz_3, sz_4, sz_8, Nat.reduceDiv, Nat.reduceSub, Nat.reduceLT, Nat.reduceLeDiff, Int.reduceLT, Int.reduceNeg, Int.mul_pos, gMul_ok, gDiv_ok, gMod_ok, *, F_pure_light, b_pure_light, e_chk h]
theorem e_product (h : Lt 1000 i q u v n) (g : Lt 1000 i' q' u' v' k') :
    F_product [.dat (T5 i q u v n), .dat (T5 i' q' u' v' k')] [] = some (.dat (Rt (i * i' - (q * q' + u * u' + v * v')) (n * k')), []) := by
  have e1 := e_chl (h.up (by decide : 1000 ≤ 4000))
  have e2 := e_chl (g.up (by decide : 1000 ≤ 4000))
  obtain ⟨i0, n0, hc, h1, si, sq, su, sv, sn⟩ := h
  obtain ⟨i0', n0', hc', h1', si', sq', su', sv', sn'⟩ := g
  have hn := Int.mul_pos n0 n0'
  simp (maxDischargeDepth := 40) only [fZip, zipD, gSum, intsOf, List.foldl_cons, List.foldl_nil, mkF, fRet, fRetL, fRetN, fSkip, fSeq, fNever, fSet, fAsg, fNew, fIfS, fDrop, fPar, fPar3, fSetc, fSetc2, fVar, fLit, fOp, fUn, fTup, fTup.datsOf, fLst, fNilA, fConsA, fStarA, fCelA, fOfL, fTru, fAndT, fOrT, fNotT, fAndV, fOrV, fNotV, fIf, fBi, fCall, fCallL, fCallFr, fPerm, callF, celOf, celsOk, norm, aName, aNil, aCons, aTup, setD, fSl, fIt, fItL, fItT, fFor, forGo, fLc, lcGo, fYes, wipeD, fCix, fList, fSlL, fPart, fNoPart, fChain, List.length_cons, List.length_nil, List.getElem?_cons_zero, List.getElem?_cons_succ, List.getElem?_nil, List.set_cons_zero, List.set_cons_succ, List.map_cons, List.map_nil, List.cons_append, List.nil_append, List.append_nil, List.replicate, List.take_zero, List.take_nil, List.take_succ_cons, ↓bsome, ↓msome, Option.bind_some, Option.map_some, Option.bind_none, Option.map_none, Nat.sub_self, Int.cast_ofNat_Int, Nat.reduceAdd, Nat.reduceMul, Nat.reduceSub, Nat.reduceLeDiff, Nat.reduceLT, Nat.zero_add, Nat.add_zero, and_self, and_true, true_and, if_true, if_false, ↓reduceIte, ite_true, Bool.true_eq_false, Bool.false_eq_true, beq_self_eq_true, Bool.and_self, Bool.not_true, Bool.not_false, decide_true, decide_false, gLen, gTyIs, gTyNot, tyOf, gNeg, gPlus, DL.gSub, gCmp, gInt, gAbs, gTuple, gMax, gMin, gGcd, LIM, gIx, ix1_0, ix2_0, ix2_1, ix3_0, ix3_1, ix3_2, ix4_0, ix4_1, ix4_2, ix4_3, ix5_0, ix5_1, ix5_2, ix5_3, ix5_4, ix6_0, ix6_1, ix6_2, ix6_3, ix6_4, ix6_5, cut5_04, cut5_14, cut4_04, cut4_03, cut4_14, Sm.mul, Sm.add, Sm.sub, Sm.neg, Sm.div, Sm.lit, sz_0, sz_1, sz_2, sz_3, sz_4, sz_8, Nat.reduceDiv, Nat.reduceSub, Nat.reduceLT, Nat.reduceLeDiff, Int.reduceLT, Int.reduceNeg, Int.mul_pos, gMul_ok, gDiv_ok, gMod_ok, *, F_product, b_product, e1, e2, e_cross, e_ratio]
/-- dark, told by its first number -/
theorem lt_dark (h : Lt m 0 q u v n) : q = 0 ∧ u = 0 ∧ v = 0 ∧ n = 1 := by
  have hc := h.cone
  have h1 : q * q ≥ 0 := sq_nn q
  have h2 : u * u ≥ 0 := sq_nn u
  have h3 : v * v ≥ 0 := sq_nn v
  have e1 : q = 0 := sq_z (by omega)
  have e2 : u = 0 := sq_z (by omega)
  have e3 : v = 0 := sq_z (by omega)
  refine ⟨e1, e2, e3, ?_⟩
  have ho := h.one
  subst e1 e2 e3
  have hn := h.n0
  simp only [gL, Int.natAbs_zero, Nat.gcd_zero_left, Nat.gcd_zero_right] at ho
  omega
theorem dark_eq (h : Lt m i q u v n) : gEq (T5 i q u v n) c__DARK = some (.bool (decide (i = 0))) := by
  show gEq (T5 i q u v n) (T5 0 0 0 0 1) = _
  rw [gEq_T5]
  by_cases hi : i = 0
  · subst hi
    obtain ⟨rfl, rfl, rfl, rfl⟩ := lt_dark h
    rfl
  · rw [decide_eq_false hi]
    congr 2
    exact beq_eq_false_iff_ne.mpr fun z => hi (by simpa using congrArg List.head? z)
theorem e_purity (h : Lt 1000 i q u v n) (hi : i ≠ 0) : F_purity [.dat (T5 i q u v n)] [] = some (.dat (Rt (q * q + u * u + v * v) (i * i)), []) := by
  have e1 := e_chl (h.up (by decide : 1000 ≤ 4000))
  have e2 := dark_eq h
  rw [decide_eq_false hi] at e2
  obtain ⟨i0, n0, hc, h1, si, sq, su, sv, sn⟩ := h
  have hn : 0 < i * i := Int.mul_pos (by omega) (by omega)
  simp (maxDischargeDepth := 40) only [fZip, zipD, gSum, intsOf, List.foldl_cons, List.foldl_nil, mkF, fRet, fRetL, fRetN, fSkip, fSeq, fNever, fSet, fAsg, fNew, fIfS, fDrop, fPar, fPar3, fSetc, fSetc2, fVar, fLit, fOp, fUn, fTup, fTup.datsOf, fLst, fNilA, fConsA, fStarA, fCelA, fOfL, fTru, fAndT, fOrT, fNotT, fAndV, fOrV, fNotV, fIf, fBi, fCall, fCallL, fCallFr, fPerm, callF, celOf, celsOk, norm, aName, aNil, aCons, aTup, setD, fSl, fIt, fItL, fItT, fFor, forGo, fLc, lcGo, fYes, wipeD, fCix, fList, fSlL, fPart, fNoPart, fChain, List.length_cons, List.length_nil, List.getElem?_cons_zero, List.getElem?_cons_succ, List.getElem?_nil, List.set_cons_zero, List.set_cons_succ, List.map_cons, List.map_nil, List.cons_append, List.nil_append, List.append_nil, List.replicate, List.take_zero, List.take_nil, List.take_succ_cons, ↓bsome, ↓msome, Option.bind_some, Option.map_some, Option.bind_none, Option.map_none, Nat.sub_self, Int.cast_ofNat_Int, Nat.reduceAdd, Nat.reduceMul, Nat.reduceSub, Nat.reduceLeDiff, Nat.reduceLT, Nat.zero_add, Nat.add_zero, and_self, and_true, true_and, if_true, if_false, ↓reduceIte, ite_true, Bool.true_eq_false, Bool.false_eq_true, beq_self_eq_true, Bool.and_self, Bool.not_true, Bool.not_false, decide_true, decide_false, gLen, gTyIs, gTyNot, tyOf, gNeg, gPlus, DL.gSub, gCmp, gInt, gAbs, gTuple, gMax, gMin, gGcd, LIM, gIx, ix1_0, ix2_0, ix2_1, ix3_0, ix3_1, ix3_2, ix4_0, ix4_1, ix4_2, ix4_3, ix5_0, ix5_1, ix5_2, ix5_3, ix5_4, ix6_0, ix6_1, ix6_2, ix6_3, ix6_4, ix6_5, cut5_04, cut5_14, cut4_04, cut4_03, cut4_14, Sm.mul, Sm.add, Sm.sub, Sm.neg, Sm.div, Sm.lit, sz_0, sz_1, sz_2, sz_3, sz_4, sz_8, Nat.reduceDiv, Nat.reduceSub, Nat.reduceLT, Nat.reduceLeDiff, Int.reduceLT, Int.reduceNeg, Int.mul_pos, gMul_ok, gDiv_ok, gMod_ok, *, F_purity, b_purity, e1, e2, e_dot3, e_ratio]
theorem e_kindof_none (h : Lt 1000 i q u v n) (hi : i = 0 ∨ 0 < i * i - (q * q + u * u + v * v)) : F_kind_of [.dat (T5 i q u v n)] [] = some (.dat .none, []) := by
  have e1 := e_chl (h.up (by decide : 1000 ≤ 4000))
  have e2 := dark_eq h
  obtain ⟨i0, n0, hc, h1, si, sq, su, sv, sn⟩ := h
  by_cases hz : i = 0
  · rw [decide_eq_true hz] at e2
    clear hz hi
    simp (maxDischargeDepth := 40) only [fZip, zipD, gSum, intsOf, List.foldl_cons, List.foldl_nil, mkF, fRet, fRetL, fRetN, fSkip, fSeq, fNever, fSet, fAsg, fNew, fIfS, fDrop, fPar, fPar3, fSetc, fSetc2, fVar, fLit, fOp, fUn, fTup, fTup.datsOf, fLst, fNilA, fConsA, fStarA, fCelA, fOfL, fTru, fAndT, fOrT, fNotT, fAndV, fOrV, fNotV, fIf, fBi, fCall, fCallL, fCallFr, fPerm, callF, celOf, celsOk, norm, aName, aNil, aCons, aTup, setD, fSl, fIt, fItL, fItT, fFor, forGo, fLc, lcGo, fYes, wipeD, fCix, fList, fSlL, fPart, fNoPart, fChain, List.length_cons, List.length_nil, List.getElem?_cons_zero, List.getElem?_cons_succ, List.getElem?_nil, List.set_cons_zero, List.set_cons_succ, List.map_cons, List.map_nil, List.cons_append, List.nil_append, List.append_nil, List.replicate, List.take_zero, List.take_nil, List.take_succ_cons, ↓bsome, ↓msome, Option.bind_some, Option.map_some, Option.bind_none, Option.map_none, Nat.sub_self, Int.cast_ofNat_Int, Nat.reduceAdd, Nat.reduceMul, Nat.reduceSub, Nat.reduceLeDiff, Nat.reduceLT, Nat.zero_add, Nat.add_zero, and_self, and_true, true_and, if_true, if_false, ↓reduceIte, ite_true, Bool.true_eq_false, Bool.false_eq_true, beq_self_eq_true, Bool.and_self, Bool.not_true, Bool.not_false, decide_true, decide_false, gLen, gTyIs, gTyNot, tyOf, gNeg, gPlus, DL.gSub, gCmp, gInt, gAbs, gTuple, gMax, gMin, gGcd, LIM, gIx, ix1_0, ix2_0, ix2_1, ix3_0, ix3_1, ix3_2, ix4_0, ix4_1, ix4_2, ix4_3, ix5_0, ix5_1, ix5_2, ix5_3, ix5_4, ix6_0, ix6_1, ix6_2, ix6_3, ix6_4, ix6_5, cut5_04, cut5_14, cut4_04, cut4_03, cut4_14, Sm.mul, Sm.add, Sm.sub, Sm.neg, Sm.div, Sm.lit, sz_0, sz_1, sz_2, sz_3, sz_4, sz_8, Nat.reduceDiv, Nat.reduceSub, Nat.reduceLT, Nat.reduceLeDiff, Int.reduceLT, Int.reduceNeg, Int.mul_pos, gMul_ok, gDiv_ok, gMod_ok, *, F_kind_of, b_kind_of, e1, e2]
  · rw [decide_eq_false hz] at e2
    have h2 : 0 < i * i - (q * q + u * u + v * v) := by rcases hi with hi | hi; exact absurd hi hz; exact hi
    simp (maxDischargeDepth := 40) only [fZip, zipD, gSum, intsOf, List.foldl_cons, List.foldl_nil, mkF, fRet, fRetL, fRetN, fSkip, fSeq, fNever, fSet, fAsg, fNew, fIfS, fDrop, fPar, fPar3, fSetc, fSetc2, fVar, fLit, fOp, fUn, fTup, fTup.datsOf, fLst, fNilA, fConsA, fStarA, fCelA, fOfL, fTru, fAndT, fOrT, fNotT, fAndV, fOrV, fNotV, fIf, fBi, fCall, fCallL, fCallFr, fPerm, callF, celOf, celsOk, norm, aName, aNil, aCons, aTup, setD, fSl, fIt, fItL, fItT, fFor, forGo, fLc, lcGo, fYes, wipeD, fCix, fList, fSlL, fPart, fNoPart, fChain, List.length_cons, List.length_nil, List.getElem?_cons_zero, List.getElem?_cons_succ, List.getElem?_nil, List.set_cons_zero, List.set_cons_succ, List.map_cons, List.map_nil, List.cons_append, List.nil_append, List.append_nil, List.replicate, List.take_zero, List.take_nil, List.take_succ_cons, ↓bsome, ↓msome, Option.bind_some, Option.map_some, Option.bind_none, Option.map_none, Nat.sub_self, Int.cast_ofNat_Int, Nat.reduceAdd, Nat.reduceMul, Nat.reduceSub, Nat.reduceLeDiff, Nat.reduceLT, Nat.zero_add, Nat.add_zero, and_self, and_true, true_and, if_true, if_false, ↓reduceIte, ite_true, Bool.true_eq_false, Bool.false_eq_true, beq_self_eq_true, Bool.and_self, Bool.not_true, Bool.not_false, decide_true, decide_false, gLen, gTyIs, gTyNot, tyOf, gNeg, gPlus, DL.gSub, gCmp, gInt, gAbs, gTuple, gMax, gMin, gGcd, LIM, gIx, ix1_0, ix2_0, ix2_1, ix3_0, ix3_1, ix3_2, ix4_0, ix4_1, ix4_2, ix4_3, ix5_0, ix5_1, ix5_2, ix5_3, ix5_4, ix6_0, ix6_1, ix6_2, ix6_3, ix6_4, ix6_5, cut5_04, cut5_14, cut4_04, cut4_03, cut4_14, Sm.mul, Sm.add, Sm.sub, Sm.neg, Sm.div, Sm.lit, sz_0, sz_1, sz_2, sz_3, sz_4, sz_8, Nat.reduceDiv, Nat.reduceSub, Nat.reduceLT, Nat.reduceLeDiff, Int.reduceLT, Int.reduceNeg, Int.mul_pos, gMul_ok, gDiv_ok, gMod_ok, *, F_kind_of, b_kind_of, e1, e2, e_cross, h2]
theorem e_kindof (h : Lt 1000 i q u v n) (hi : i ≠ 0) (hp : i * i - (q * q + u * u + v * v) = 0) : F_kind_of [.dat (T5 i q u v n)] [] = some (.dat (R4 q u v i), []) := by
  have e1 := e_chl (h.up (by decide : 1000 ≤ 4000))
  have e2 := dark_eq h
  rw [decide_eq_false hi] at e2
  obtain ⟨i0, n0, hc, h1, si, sq, su, sv, sn⟩ := h
  have h2 : ¬ (0 < i * i - (q * q + u * u + v * v)) := by omega
  simp (maxDischargeDepth := 40) only [fZip, zipD, gSum, intsOf, List.foldl_cons, List.foldl_nil, mkF, fRet, fRetL, fRetN, fSkip, fSeq, fNever, fSet, fAsg, fNew, fIfS, fDrop, fPar, fPar3, fSetc, fSetc2, fVar, fLit, fOp, fUn, fTup, fTup.datsOf, fLst, fNilA, fConsA, fStarA, fCelA, fOfL, fTru, fAndT, fOrT, fNotT, fAndV, fOrV, fNotV, fIf, fBi, fCall, fCallL, fCallFr, fPerm, callF, celOf, celsOk, norm, aName, aNil, aCons, aTup, setD, fSl, fIt, fItL, fItT, fFor, forGo, fLc, lcGo, fYes, wipeD, fCix, fList, fSlL, fPart, fNoPart, fChain, List.length_cons, List.length_nil, List.getElem?_cons_zero, List.getElem?_cons_succ, List.getElem?_nil, List.set_cons_zero, List.set_cons_succ, List.map_cons, List.map_nil, List.cons_append, List.nil_append, List.append_nil, List.replicate, List.take_zero, List.take_nil, List.take_succ_cons, ↓bsome, ↓msome, Option.bind_some, Option.map_some, Option.bind_none, Option.map_none, Nat.sub_self, Int.cast_ofNat_Int, Nat.reduceAdd, Nat.reduceMul, Nat.reduceSub, Nat.reduceLeDiff, Nat.reduceLT, Nat.zero_add, Nat.add_zero, and_self, and_true, true_and, if_true, if_false, ↓reduceIte, ite_true, Bool.true_eq_false, Bool.false_eq_true, beq_self_eq_true, Bool.and_self, Bool.not_true, Bool.not_false, decide_true, decide_false, gLen, gTyIs, gTyNot, tyOf, gNeg, gPlus, DL.gSub, gCmp, gInt, gAbs, gTuple, gMax, gMin, gGcd, LIM, gIx, ix1_0, ix2_0, ix2_1, ix3_0, ix3_1, ix3_2, ix4_0, ix4_1, ix4_2, ix4_3, ix5_0, ix5_1, ix5_2, ix5_3, ix5_4, ix6_0, ix6_1, ix6_2, ix6_3, ix6_4, ix6_5, cut5_04, cut5_14, cut4_04, cut4_03, cut4_14, Sm.mul, Sm.add, Sm.sub, Sm.neg, Sm.div, Sm.lit, sz_0, sz_1, sz_2, sz_3, sz_4, sz_8, Nat.reduceDiv, Nat.reduceSub, Nat.reduceLT, Nat.reduceLeDiff, Int.reduceLT, Int.reduceNeg, Int.mul_pos, gMul_ok, gDiv_ok, gMod_ok, *, F_kind_of, b_kind_of, e1, e2, e_cross, h2, e_red4]
end
end PL


set_option Elab.async false
set_option linter.all false
set_option maxRecDepth 100000
set_option maxHeartbeats 400000
set_option exponentiation.threshold 20000
namespace PL
open PySem PySem.Spec L2 DL
/-! what is drawn: the first family of laws -/
structure TapO (k : Nat) (a s n : Int) : Prop where
  a0 : 0 ≤ a
  s0 : 0 ≤ s
  s1 : s < 1000000409
  n0 : 0 ≤ n
  n1 : n + k < 2 ^ 40
def Tap (k : Nat) (t : List PyData) : Prop := ∃ a s n, t = L3 a s n ∧ TapO k a s n
theorem Tap.le {k m : Nat} {t : List PyData} (h : Tap k t) (hm : m ≤ k) : Tap m t := by
  obtain ⟨a, s, n, e, h⟩ := h
  exact ⟨a, s, n, e, h.a0, h.s0, h.s1, h.n0, by have := h.n1; omega⟩
theorem gMul_sm {x y : Int} (h0 : 0 ≤ x) (h1 : x < 2 ^ 60) (g0 : 0 ≤ y) (g1 : y < 2 ^ 60) : gMul (.int x) (.int y) = some (.int (x * y)) := gMul_ok (sz_of h0 h1).sm (sz_of g0 g1).sm
theorem e_from {k : Nat} {t : List PyData} {m : Int} (h : Tap (k + 1) t) (hm : 0 < m) (hm2 : m < 2 ^ 40) :
    ∃ v t', F__law_from [.cel 0, .dat (.int m)] [t] = some (.dat (.int v), [t']) ∧ Tap k t' ∧ 0 ≤ v ∧ v < m := by
  obtain ⟨a, s, n, rfl, ha, h0, h1, h2, h3⟩ := h
  have st := (sz_of (by omega) (by omega : m < 2 ^ 60)).sm (m := 1000)
  by_cases hp : 0 < a
  · refine ⟨a % m, L3 (a / m) s n, ?_, ⟨_, _, _, rfl, Int.ediv_nonneg ha (by omega), h0, h1, h2, by omega⟩, Int.emod_nonneg _ (by omega), Int.emod_lt_of_pos _ hm⟩
    have hd := dm_ok (i := a) hm st
    simp (maxDischargeDepth := 40) only [fZip, zipD, gSum, intsOf, List.foldl_cons, List.foldl_nil, mkF, fRet, fRetL, fRetN, fSkip, fSeq, fNever, fSet, fAsg, fNew, fIfS, fDrop, fPar, fPar3, fSetc, fSetc2, fVar, fLit, fOp, fUn, fTup, fTup.datsOf, fLst, fNilA, fConsA, fStarA, fCelA, fOfL, fTru, fAndT, fOrT, fNotT, fAndV, fOrV, fNotV, fIf, fBi, fCall, fCallL, fCallFr, fPerm, callF, celOf, celsOk, norm, aName, aNil, aCons, aTup, setD, fSl, fIt, fItL, fItT, fFor, forGo, fLc, lcGo, fYes, wipeD, fCix, fList, fSlL, fPart, fNoPart, fChain, List.length_cons, List.length_nil, List.getElem?_cons_zero, List.getElem?_cons_succ, List.getElem?_nil, List.set_cons_zero, List.set_cons_succ, List.map_cons, List.map_nil, List.cons_append, List.nil_append, List.append_nil, List.replicate, List.take_zero, List.take_nil, List.take_succ_cons, ↓bsome, ↓msome, Option.bind_some, Option.map_some, Option.bind_none, Option.map_none, Nat.sub_self, Int.cast_ofNat_Int, Nat.reduceAdd, Nat.reduceMul, Nat.reduceSub, Nat.reduceLeDiff, Nat.reduceLT, Nat.zero_add, Nat.add_zero, and_self, and_true, true_and, if_true, if_false, ↓reduceIte, ite_true, Bool.true_eq_false, Bool.false_eq_true, beq_self_eq_true, Bool.and_self, Bool.not_true, Bool.not_false, decide_true, decide_false, gLen, gTyIs, gTyNot, tyOf, gNeg, gPlus, DL.gSub, gCmp, gInt, gAbs, gTuple, gMax, gMin, gGcd, LIM, gIx, ix1_0, ix2_0, ix2_1, ix3_0, ix3_1, ix3_2, ix4_0, ix4_1, ix4_2, ix4_3, ix5_0, ix5_1, ix5_2, ix5_3, ix5_4, ix6_0, ix6_1, ix6_2, ix6_3, ix6_4, ix6_5, cut5_04, cut5_14, cut4_04, cut4_03, cut4_14, Sm.mul, Sm.add, Sm.sub, Sm.neg, Sm.div, Sm.lit, sz_0, sz_1, sz_2, sz_3, sz_4, sz_8, Nat.reduceDiv, Nat.reduceSub, Nat.reduceLT, Nat.reduceLeDiff, Int.reduceLT, Int.reduceNeg, Int.mul_pos, gMul_ok, gDiv_ok, gMod_ok, F__law_from, b__law_from, ixN3_0, hp, hd]
  · have p1 : (0 : Int) < 1000000409 := by decide
    have p2 : (0 : Int) < 6007 := by decide
    have m2 := gMul_sm (by decide : (0 : Int) ≤ 70657) (by decide) (by omega : 0 ≤ n + 1) (by omega : n + 1 < 2 ^ 60)
    have d1 := fun i : Int => gMod_ok (i := i) p1
    have d2 := fun i : Int => gMod_ok (i := i) p2
    have d3 := fun i : Int => gMod_ok (i := i) hm
    generalize hx : (s + 70657 * (n + 1) + 13) % 1000000409 = x
    have x0 : 0 ≤ x := by omega
    have x1 : x < 1000000409 := by omega
    have m3 := gMul_sm x0 (by omega) (by omega : 0 ≤ x % 6007 + 17011) (by omega)
    have m4 := gMul_sm (by decide : (0 : Int) ≤ 19) (by decide) (by omega : 0 ≤ n + 1) (by omega : n + 1 < 2 ^ 60)
    generalize hy : (x * (x % 6007 + 17011) + 19 * (n + 1)) % 1000000409 = y
    have q2 : gDiv (.int y) (.int 113) = some (.int (y / 113)) := gDiv_ok (by decide) (Sz.of40 (by decide)).sm
    refine ⟨y / 113 % m, L3 a y (n + 1), ?_, ⟨_, _, _, rfl, ha, by omega, by omega, by omega, by push_cast at h3; omega⟩, Int.emod_nonneg _ (by omega), Int.emod_lt_of_pos _ hm⟩
    simp only [fZip, zipD, gSum, intsOf, List.foldl_cons, List.foldl_nil, mkF, fRet, fRetL, fRetN, fSkip, fSeq, fNever, fSet, fAsg, fNew, fIfS, fDrop, fPar, fPar3, fSetc, fSetc2, fVar, fLit, fOp, fUn, fTup, fTup.datsOf, fLst, fNilA, fConsA, fStarA, fCelA, fOfL, fTru, fAndT, fOrT, fNotT, fAndV, fOrV, fNotV, fIf, fBi, fCall, fCallL, fCallFr, fPerm, callF, celOf, celsOk, norm, aName, aNil, aCons, aTup, setD, fSl, fIt, fItL, fItT, fFor, forGo, fLc, lcGo, fYes, wipeD, fCix, fList, fSlL, fPart, fNoPart, fChain, List.length_cons, List.length_nil, List.getElem?_cons_zero, List.getElem?_cons_succ, List.getElem?_nil, List.set_cons_zero, List.set_cons_succ, List.map_cons, List.map_nil, List.cons_append, List.nil_append, List.append_nil, List.replicate, List.take_zero, List.take_nil, List.take_succ_cons, ↓bsome, ↓msome, Option.bind_some, Option.map_some, Option.bind_none, Option.map_none, Nat.sub_self, Int.cast_ofNat_Int, Nat.reduceAdd, Nat.reduceMul, Nat.reduceSub, Nat.reduceLeDiff, Nat.reduceLT, Nat.zero_add, Nat.add_zero, and_self, and_true, true_and, if_true, if_false, ↓reduceIte, ite_true, Bool.true_eq_false, Bool.false_eq_true, beq_self_eq_true, Bool.and_self, Bool.not_true, Bool.not_false, decide_true, decide_false, gLen, gTyIs, gTyNot, tyOf, gNeg, gPlus, DL.gSub, gCmp, gInt, gAbs, gTuple, gMax, gMin, gGcd, LIM, gIx, F__law_from, b__law_from, gIx, ix3_0, ix3_1, ix3_2, ixN3_0, ixN3_1, ixN3_2, hp, m2, d1, d2, d3, hx, m3, m4, hy, q2]
theorem e_pick {k : Nat} {t : List PyData} {xs : List PyData} (h : Tap (k + 1) t) (h0 : 0 < xs.length) (h1 : xs.length < 1000) :
    ∃ x t', F__law_pick [.cel 0, .dat (.tuple xs)] [t] = some (.dat x, [t']) ∧ Tap k t' ∧ x ∈ xs := by
  obtain ⟨v, t', e, h', v0, v1⟩ := e_from (m := (xs.length : Nat)) h (by omega) (by omega)
  obtain ⟨x, hx, ex⟩ := atI_in v0 v1
  refine ⟨x, t', ?_, h', hx⟩
  simp only [fZip, zipD, gSum, intsOf, List.foldl_cons, List.foldl_nil, mkF, fRet, fRetL, fRetN, fSkip, fSeq, fNever, fSet, fAsg, fNew, fIfS, fDrop, fPar, fPar3, fSetc, fSetc2, fVar, fLit, fOp, fUn, fTup, fTup.datsOf, fLst, fNilA, fConsA, fStarA, fCelA, fOfL, fTru, fAndT, fOrT, fNotT, fAndV, fOrV, fNotV, fIf, fBi, fCall, fCallL, fCallFr, fPerm, callF, celOf, celsOk, norm, aName, aNil, aCons, aTup, setD, fSl, fIt, fItL, fItT, fFor, forGo, fLc, lcGo, fYes, wipeD, fCix, fList, fSlL, fPart, fNoPart, fChain, List.length_cons, List.length_nil, List.getElem?_cons_zero, List.getElem?_cons_succ, List.getElem?_nil, List.set_cons_zero, List.set_cons_succ, List.map_cons, List.map_nil, List.cons_append, List.nil_append, List.append_nil, List.replicate, List.take_zero, List.take_nil, List.take_succ_cons, ↓bsome, ↓msome, Option.bind_some, Option.map_some, Option.bind_none, Option.map_none, Nat.sub_self, Int.cast_ofNat_Int, Nat.reduceAdd, Nat.reduceMul, Nat.reduceSub, Nat.reduceLeDiff, Nat.reduceLT, Nat.zero_add, Nat.add_zero, and_self, and_true, true_and, if_true, if_false, ↓reduceIte, ite_true, Bool.true_eq_false, Bool.false_eq_true, beq_self_eq_true, Bool.and_self, Bool.not_true, Bool.not_false, decide_true, decide_false, gLen, gTyIs, gTyNot, tyOf, gNeg, gPlus, DL.gSub, gCmp, gInt, gAbs, gTuple, gMax, gMin, gGcd, LIM, gIx, F__law_pick, b__law_pick, e, gIx, ex]
theorem e_pickl {k : Nat} {t : List PyData} {xs : List PyData} (h : Tap (k + 1) t) (h0 : 0 < xs.length) (h1 : xs.length < 1000) :
    ∃ x t', F__law_pick [.cel 0, .dat (.list xs)] [t] = some (.dat x, [t']) ∧ Tap k t' ∧ x ∈ xs := by
  obtain ⟨v, t', e, h', v0, v1⟩ := e_from (m := (xs.length : Nat)) h (by omega) (by omega)
  obtain ⟨x, hx, ex⟩ := atI_in v0 v1
  refine ⟨x, t', ?_, h', hx⟩
  simp only [fZip, zipD, gSum, intsOf, List.foldl_cons, List.foldl_nil, mkF, fRet, fRetL, fRetN, fSkip, fSeq, fNever, fSet, fAsg, fNew, fIfS, fDrop, fPar, fPar3, fSetc, fSetc2, fVar, fLit, fOp, fUn, fTup, fTup.datsOf, fLst, fNilA, fConsA, fStarA, fCelA, fOfL, fTru, fAndT, fOrT, fNotT, fAndV, fOrV, fNotV, fIf, fBi, fCall, fCallL, fCallFr, fPerm, callF, celOf, celsOk, norm, aName, aNil, aCons, aTup, setD, fSl, fIt, fItL, fItT, fFor, forGo, fLc, lcGo, fYes, wipeD, fCix, fList, fSlL, fPart, fNoPart, fChain, List.length_cons, List.length_nil, List.getElem?_cons_zero, List.getElem?_cons_succ, List.getElem?_nil, List.set_cons_zero, List.set_cons_succ, List.map_cons, List.map_nil, List.cons_append, List.nil_append, List.append_nil, List.replicate, List.take_zero, List.take_nil, List.take_succ_cons, ↓bsome, ↓msome, Option.bind_some, Option.map_some, Option.bind_none, Option.map_none, Nat.sub_self, Int.cast_ofNat_Int, Nat.reduceAdd, Nat.reduceMul, Nat.reduceSub, Nat.reduceLeDiff, Nat.reduceLT, Nat.zero_add, Nat.add_zero, and_self, and_true, true_and, if_true, if_false, ↓reduceIte, ite_true, Bool.true_eq_false, Bool.false_eq_true, beq_self_eq_true, Bool.and_self, Bool.not_true, Bool.not_false, decide_true, decide_false, gLen, gTyIs, gTyNot, tyOf, gNeg, gPlus, DL.gSub, gCmp, gInt, gAbs, gTuple, gMax, gMin, gGcd, LIM, gIx, F__law_pick, b__law_pick, e, gIx, ex]
/-- one of some numbers -/
theorem e_pickn {k : Nat} {t : List PyData} (ns : List Int) (h : Tap (k + 1) t) (h0 : 0 < ns.length) (h1 : ns.length < 1000) :
    ∃ x t', F__law_pick [.cel 0, .dat (.tuple (ns.map .int))] [t] = some (.dat (.int x), [t']) ∧ Tap k t' ∧ x ∈ ns := by
  obtain ⟨x, t', e, h', hx⟩ := e_pick (xs := ns.map .int) h (by simpa using h0) (by simpa using h1)
  obtain ⟨n, hn, rfl⟩ := List.mem_map.mp hx
  exact ⟨n, t', e, h', hn⟩
theorem e_low {k : Nat} {t : List PyData} (h : Tap (k + 2) t) : ∃ v t', F__law_low [.cel 0] [t] = some (.dat (.int v), [t']) ∧ Tap k t' ∧ -100 ≤ v ∧ v ≤ 100 := by
  obtain ⟨w, t1, e1, h1, w0, w1⟩ := e_from (m := 10) h (by decide) (by decide)
  by_cases hw : w < 8
  · obtain ⟨v, t2, e2, h2, v0, v1⟩ := e_from (m := 7) h1 (by decide) (by decide)
    refine ⟨v - 3, t2, ?_, h2, by omega, by omega⟩
    simp (maxDischargeDepth := 40) only [fZip, zipD, gSum, intsOf, List.foldl_cons, List.foldl_nil, mkF, fRet, fRetL, fRetN, fSkip, fSeq, fNever, fSet, fAsg, fNew, fIfS, fDrop, fPar, fPar3, fSetc, fSetc2, fVar, fLit, fOp, fUn, fTup, fTup.datsOf, fLst, fNilA, fConsA, fStarA, fCelA, fOfL, fTru, fAndT, fOrT, fNotT, fAndV, fOrV, fNotV, fIf, fBi, fCall, fCallL, fCallFr, fPerm, callF, celOf, celsOk, norm, aName, aNil, aCons, aTup, setD, fSl, fIt, fItL, fItT, fFor, forGo, fLc, lcGo, fYes, wipeD, fCix, fList, fSlL, fPart, fNoPart, fChain, List.length_cons, List.length_nil, List.getElem?_cons_zero, List.getElem?_cons_succ, List.getElem?_nil, List.set_cons_zero, List.set_cons_succ, List.map_cons, List.map_nil, List.cons_append, List.nil_append, List.append_nil, List.replicate, List.take_zero, List.take_nil, List.take_succ_cons, ↓bsome, ↓msome, Option.bind_some, Option.map_some, Option.bind_none, Option.map_none, Nat.sub_self, Int.cast_ofNat_Int, Nat.reduceAdd, Nat.reduceMul, Nat.reduceSub, Nat.reduceLeDiff, Nat.reduceLT, Nat.zero_add, Nat.add_zero, and_self, and_true, true_and, if_true, if_false, ↓reduceIte, ite_true, Bool.true_eq_false, Bool.false_eq_true, beq_self_eq_true, Bool.and_self, Bool.not_true, Bool.not_false, decide_true, decide_false, gLen, gTyIs, gTyNot, tyOf, gNeg, gPlus, DL.gSub, gCmp, gInt, gAbs, gTuple, gMax, gMin, gGcd, LIM, gIx, ix1_0, ix2_0, ix2_1, ix3_0, ix3_1, ix3_2, ix4_0, ix4_1, ix4_2, ix4_3, ix5_0, ix5_1, ix5_2, ix5_3, ix5_4, ix6_0, ix6_1, ix6_2, ix6_3, ix6_4, ix6_5, cut5_04, cut5_14, cut4_04, cut4_03, cut4_14, Sm.mul, Sm.add, Sm.sub, Sm.neg, Sm.div, Sm.lit, sz_0, sz_1, sz_2, sz_3, sz_4, sz_8, Nat.reduceDiv, Nat.reduceSub, Nat.reduceLT, Nat.reduceLeDiff, Int.reduceLT, Int.reduceNeg, Int.mul_pos, gMul_ok, gDiv_ok, gMod_ok, F__law_low, b__law_low, e1, e2, hw]
  · by_cases h8 : w = 8
    · subst h8
      obtain ⟨v, t2, e2, h2, v0, v1⟩ := e_from (m := 25) h1 (by decide) (by decide)
      refine ⟨v - 12, t2, ?_, h2, by omega, by omega⟩
      simp (maxDischargeDepth := 40) only [fZip, zipD, gSum, intsOf, List.foldl_cons, List.foldl_nil, mkF, fRet, fRetL, fRetN, fSkip, fSeq, fNever, fSet, fAsg, fNew, fIfS, fDrop, fPar, fPar3, fSetc, fSetc2, fVar, fLit, fOp, fUn, fTup, fTup.datsOf, fLst, fNilA, fConsA, fStarA, fCelA, fOfL, fTru, fAndT, fOrT, fNotT, fAndV, fOrV, fNotV, fIf, fBi, fCall, fCallL, fCallFr, fPerm, callF, celOf, celsOk, norm, aName, aNil, aCons, aTup, setD, fSl, fIt, fItL, fItT, fFor, forGo, fLc, lcGo, fYes, wipeD, fCix, fList, fSlL, fPart, fNoPart, fChain, List.length_cons, List.length_nil, List.getElem?_cons_zero, List.getElem?_cons_succ, List.getElem?_nil, List.set_cons_zero, List.set_cons_succ, List.map_cons, List.map_nil, List.cons_append, List.nil_append, List.append_nil, List.replicate, List.take_zero, List.take_nil, List.take_succ_cons, ↓bsome, ↓msome, Option.bind_some, Option.map_some, Option.bind_none, Option.map_none, Nat.sub_self, Int.cast_ofNat_Int, Nat.reduceAdd, Nat.reduceMul, Nat.reduceSub, Nat.reduceLeDiff, Nat.reduceLT, Nat.zero_add, Nat.add_zero, and_self, and_true, true_and, if_true, if_false, ↓reduceIte, ite_true, Bool.true_eq_false, Bool.false_eq_true, beq_self_eq_true, Bool.and_self, Bool.not_true, Bool.not_false, decide_true, decide_false, gLen, gTyIs, gTyNot, tyOf, gNeg, gPlus, DL.gSub, gCmp, gInt, gAbs, gTuple, gMax, gMin, gGcd, LIM, gIx, ix1_0, ix2_0, ix2_1, ix3_0, ix3_1, ix3_2, ix4_0, ix4_1, ix4_2, ix4_3, ix5_0, ix5_1, ix5_2, ix5_3, ix5_4, ix6_0, ix6_1, ix6_2, ix6_3, ix6_4, ix6_5, cut5_04, cut5_14, cut4_04, cut4_03, cut4_14, Sm.mul, Sm.add, Sm.sub, Sm.neg, Sm.div, Sm.lit, sz_0, sz_1, sz_2, sz_3, sz_4, sz_8, Nat.reduceDiv, Nat.reduceSub, Nat.reduceLT, Nat.reduceLeDiff, Int.reduceLT, Int.reduceNeg, Int.mul_pos, gMul_ok, gDiv_ok, gMod_ok, F__law_low, b__law_low, e1, e2, gEq_int]
    · obtain ⟨v, t2, e2, h2, v0, v1⟩ := e_from (m := 199) h1 (by decide) (by decide)
      refine ⟨v - 99, t2, ?_, h2, by omega, by omega⟩
      have hb : (w == 8) = false := beq_eq_false_iff_ne.mpr h8
      simp (maxDischargeDepth := 40) only [fZip, zipD, gSum, intsOf, List.foldl_cons, List.foldl_nil, mkF, fRet, fRetL, fRetN, fSkip, fSeq, fNever, fSet, fAsg, fNew, fIfS, fDrop, fPar, fPar3, fSetc, fSetc2, fVar, fLit, fOp, fUn, fTup, fTup.datsOf, fLst, fNilA, fConsA, fStarA, fCelA, fOfL, fTru, fAndT, fOrT, fNotT, fAndV, fOrV, fNotV, fIf, fBi, fCall, fCallL, fCallFr, fPerm, callF, celOf, celsOk, norm, aName, aNil, aCons, aTup, setD, fSl, fIt, fItL, fItT, fFor, forGo, fLc, lcGo, fYes, wipeD, fCix, fList, fSlL, fPart, fNoPart, fChain, List.length_cons, List.length_nil, List.getElem?_cons_zero, List.getElem?_cons_succ, List.getElem?_nil, List.set_cons_zero, List.set_cons_succ, List.map_cons, List.map_nil, List.cons_append, List.nil_append, List.append_nil, List.replicate, List.take_zero, List.take_nil, List.take_succ_cons, ↓bsome, ↓msome, Option.bind_some, Option.map_some, Option.bind_none, Option.map_none, Nat.sub_self, Int.cast_ofNat_Int, Nat.reduceAdd, Nat.reduceMul, Nat.reduceSub, Nat.reduceLeDiff, Nat.reduceLT, Nat.zero_add, Nat.add_zero, and_self, and_true, true_and, if_true, if_false, ↓reduceIte, ite_true, Bool.true_eq_false, Bool.false_eq_true, beq_self_eq_true, Bool.and_self, Bool.not_true, Bool.not_false, decide_true, decide_false, gLen, gTyIs, gTyNot, tyOf, gNeg, gPlus, DL.gSub, gCmp, gInt, gAbs, gTuple, gMax, gMin, gGcd, LIM, gIx, ix1_0, ix2_0, ix2_1, ix3_0, ix3_1, ix3_2, ix4_0, ix4_1, ix4_2, ix4_3, ix5_0, ix5_1, ix5_2, ix5_3, ix5_4, ix6_0, ix6_1, ix6_2, ix6_3, ix6_4, ix6_5, cut5_04, cut5_14, cut4_04, cut4_03, cut4_14, Sm.mul, Sm.add, Sm.sub, Sm.neg, Sm.div, Sm.lit, sz_0, sz_1, sz_2, sz_3, sz_4, sz_8, Nat.reduceDiv, Nat.reduceSub, Nat.reduceLT, Nat.reduceLeDiff, Int.reduceLT, Int.reduceNeg, Int.mul_pos, gMul_ok, gDiv_ok, gMod_ok, F__law_low, b__law_low, e1, e2, hw, gEq_int, hb]
/-! the law's own greatest divisor -/
abbrev EucB : FS := (fSeq (fIfS (fTru (fOp gEq (fVar 5) (fLit (.int 0)))) (fun st => some (.bk st)) fSkip) (fPar 4 5 (fConsA (fVar 5) (fConsA (fOp gMod (fBi gInt (fConsA (fVar 4) fNilA)) (fVar 5)) fNilA))))
abbrev eSt (x0 x1 x2 x3 : Option SV) (p q : Nat) : Sta := ⟨[x0, x1, x2, x3, some (.dat (.int (p : Nat))), some (.dat (.int (q : Nat)))], []⟩
theorem euc_0 (x0 x1 x2 x3 : Option SV) (p : Nat) (k : PyData) (ks : List PyData) : forGo (aName 3) EucB (k :: ks) (eSt x0 x1 x2 x3 p 0) = some (.nx (eSt x0 x1 x2 (some (.dat k)) p 0)) := by
  simp only [fZip, zipD, gSum, intsOf, List.foldl_cons, List.foldl_nil, mkF, fRet, fRetL, fRetN, fSkip, fSeq, fNever, fSet, fAsg, fNew, fIfS, fDrop, fPar, fPar3, fSetc, fSetc2, fVar, fLit, fOp, fUn, fTup, fTup.datsOf, fLst, fNilA, fConsA, fStarA, fCelA, fOfL, fTru, fAndT, fOrT, fNotT, fAndV, fOrV, fNotV, fIf, fBi, fCall, fCallL, fCallFr, fPerm, callF, celOf, celsOk, norm, aName, aNil, aCons, aTup, setD, fSl, fIt, fItL, fItT, fFor, forGo, fLc, lcGo, fYes, wipeD, fCix, fList, fSlL, fPart, fNoPart, fChain, List.length_cons, List.length_nil, List.getElem?_cons_zero, List.getElem?_cons_succ, List.getElem?_nil, List.set_cons_zero, List.set_cons_succ, List.map_cons, List.map_nil, List.cons_append, List.nil_append, List.append_nil, List.replicate, List.take_zero, List.take_nil, List.take_succ_cons, ↓bsome, ↓msome, Option.bind_some, Option.map_some, Option.bind_none, Option.map_none, Nat.sub_self, Int.cast_ofNat_Int, Nat.reduceAdd, Nat.reduceMul, Nat.reduceSub, Nat.reduceLeDiff, Nat.reduceLT, Nat.zero_add, Nat.add_zero, and_self, and_true, true_and, if_true, if_false, ↓reduceIte, ite_true, Bool.true_eq_false, Bool.false_eq_true, beq_self_eq_true, Bool.and_self, Bool.not_true, Bool.not_false, decide_true, decide_false, gLen, gTyIs, gTyNot, tyOf, gNeg, gPlus, DL.gSub, gCmp, gInt, gAbs, gTuple, gMax, gMin, gGcd, LIM, gIx, gEq_int, Int.natCast_zero, Int.ofNat_zero, Int.cast_ofNat_Int]
  rfl
theorem euc_1 (x0 x1 x2 x3 : Option SV) (p q : Nat) (hq : q ≠ 0) (k : PyData) (ks : List PyData) : forGo (aName 3) EucB (k :: ks) (eSt x0 x1 x2 x3 p q) = forGo (aName 3) EucB ks (eSt x0 x1 x2 (some (.dat k)) q (p % q)) := by
  have e : EucB (eSt x0 x1 x2 (some (.dat k)) p q) = some (.nx (eSt x0 x1 x2 (some (.dat k)) q (p % q))) := by
    have hq' : ((q : Int) == 0) = false := beq_eq_false_iff_ne.mpr (by omega)
    have hm : (0 : Int) < q := by omega
    have hd : gMod (.int (p : Int)) (.int (q : Int)) = some (.int ((p % q : Nat) : Int)) := gMod_ok hm
    simp only [fZip, zipD, gSum, intsOf, List.foldl_cons, List.foldl_nil, mkF, fRet, fRetL, fRetN, fSkip, fSeq, fNever, fSet, fAsg, fNew, fIfS, fDrop, fPar, fPar3, fSetc, fSetc2, fVar, fLit, fOp, fUn, fTup, fTup.datsOf, fLst, fNilA, fConsA, fStarA, fCelA, fOfL, fTru, fAndT, fOrT, fNotT, fAndV, fOrV, fNotV, fIf, fBi, fCall, fCallL, fCallFr, fPerm, callF, celOf, celsOk, norm, aName, aNil, aCons, aTup, setD, fSl, fIt, fItL, fItT, fFor, forGo, fLc, lcGo, fYes, wipeD, fCix, fList, fSlL, fPart, fNoPart, fChain, List.length_cons, List.length_nil, List.getElem?_cons_zero, List.getElem?_cons_succ, List.getElem?_nil, List.set_cons_zero, List.set_cons_succ, List.map_cons, List.map_nil, List.cons_append, List.nil_append, List.append_nil, List.replicate, List.take_zero, List.take_nil, List.take_succ_cons, ↓bsome, ↓msome, Option.bind_some, Option.map_some, Option.bind_none, Option.map_none, Nat.sub_self, Int.cast_ofNat_Int, Nat.reduceAdd, Nat.reduceMul, Nat.reduceSub, Nat.reduceLeDiff, Nat.reduceLT, Nat.zero_add, Nat.add_zero, and_self, and_true, true_and, if_true, if_false, ↓reduceIte, ite_true, Bool.true_eq_false, Bool.false_eq_true, beq_self_eq_true, Bool.and_self, Bool.not_true, Bool.not_false, decide_true, decide_false, gLen, gTyIs, gTyNot, tyOf, gNeg, gPlus, DL.gSub, gCmp, gInt, gAbs, gTuple, gMax, gMin, gGcd, LIM, gIx, gEq_int, hq', hd]
  generalize EucB = b at e ⊢
  simp only [forGo, aName, setD, List.set_cons_succ, List.set_cons_zero, Option.bind_some, e]
theorem euc_go (x0 x1 x2 : Option SV) : ∀ (n : Nat) (p q : Nat) (x3 : Option SV) (ks : List PyData), q < 2 ^ n → 2 * n + 1 ≤ ks.length → ∃ y3, forGo (aName 3) EucB ks (eSt x0 x1 x2 x3 p q) = some (.nx (eSt x0 x1 x2 y3 (Nat.gcd p q) 0))
  | 0, p, q, x3, ks, h, hl => by
    cases ks with
    | nil => simp at hl
    | cons k ks =>
      have : q = 0 := by simpa using h
      subst this
      exact ⟨_, by rw [euc_0, Nat.gcd_zero_right]⟩
  | n + 1, p, q, x3, ks, h, hl => by
    match ks, hl with
    | k1 :: k2 :: ks, hl =>
      by_cases hq : q = 0
      · subst hq
        exact ⟨_, by rw [euc_0, Nat.gcd_zero_right]⟩
      · rw [euc_1 _ _ _ _ _ _ hq]
        have eg : Nat.gcd p q = Nat.gcd q (p % q) := by rw [Nat.gcd_comm p q, Nat.gcd_rec q p, Nat.gcd_comm]
        by_cases hr : p % q = 0
        · rw [hr, euc_0]
          exact ⟨_, by rw [eg, hr, Nat.gcd_zero_right]⟩
        · rw [euc_1 _ _ _ _ _ _ hr]
          have eg2 : Nat.gcd q (p % q) = Nat.gcd (p % q) (q % (p % q)) := by rw [Nat.gcd_comm q (p % q), Nat.gcd_rec (p % q) q, Nat.gcd_comm]
          have h1 : p % q < q := Nat.mod_lt _ (by omega)
          have h2 : q % (p % q) < p % q := Nat.mod_lt _ (by omega)
          have h3 : q % (p % q) + (p % q) ≤ q := by
            have := Nat.div_add_mod q (p % q)
            have h4 : 1 ≤ q / (p % q) := Nat.div_pos (by omega) (by omega)
            have h5 : (p % q) * 1 ≤ (p % q) * (q / (p % q)) := Nat.mul_le_mul_left _ h4
            omega
          have h6 : q % (p % q) < 2 ^ n := by rw [Nat.pow_succ] at h; omega
          obtain ⟨y3, e⟩ := euc_go x0 x1 x2 n (p % q) (q % (p % q)) (some (.dat k2)) ks h6 (by simp only [List.length_cons] at hl; omega)
          exact ⟨y3, by rw [e, eg, eg2]⟩
abbrev ComB : FS := (fSeq (fPar 4 5 (fConsA (fVar 1) (fConsA (fBi gAbs (fConsA (fVar 2) fNilA)) fNilA))) (fSeq (fFor (fRng1 (fConsA (fLit (.int 3000)) fNilA)) (aName 3) EucB) (fSet 1 (fVar 4))))
theorem rng_ok {n : Int} (h0 : 0 ≤ n) (h1 : n ≤ 5000) : rngOk n = true := by
  unfold rngOk
  rw [decide_eq_true_eq]
  omega
theorem rng1_eq {a : FA} {st : Sta} {j : Int} {c : Cs} (h : a st = some ([.dat (.int j)], c)) (b : Bool) (hb : rngOk j = b) : fRng1 a st = if b = true then some (rangeD 0 j.toNat, c) else none := by
  unfold fRng1
  rw [h, Option.bind_some]
  simp only [hb]
theorem rg_of {e : FE} {st : Sta} {c : Cs} {J : Nat} (h : e st = some (.int (J : Nat), c)) (hJ : J ≤ 5000) : fRng1 (fConsA e fNilA) st = some (rangeD 0 J, c) := by
  have e1 : fConsA e fNilA st = some ([.dat (.int (J : Nat))], c) := by
    simp only [fConsA, fNilA, h, Option.bind_some, Option.map_some]
  rw [rng1_eq e1 true (rng_ok (by omega) (by omega)), Int.toNat_natCast]
  rfl
theorem rangeD_len (lo : Int) (n : Nat) : (rangeD lo n).length = n := by unfold rangeD; rw [List.length_map, List.length_range]
theorem com_1 (x0 x2 x3 x4 x5 : Option SV) (g : Nat) (x : Int) (h : Sm 1400 x) : ∃ y3 y4 y5, ComB ⟨[x0, some (.dat (.int (g : Nat))), some (.dat (.int x)), x3, x4, x5], []⟩ = some (.nx ⟨[x0, some (.dat (.int ((Nat.gcd g x.natAbs : Nat) : Int))), some (.dat (.int x)), y3, y4, y5], []⟩) := by
  obtain ⟨y3, e⟩ := euc_go x0 (some (.dat (.int (g : Nat)))) (some (.dat (.int x))) 1400 g x.natAbs x3 (rangeD 0 3000) h (by rw [rangeD_len]; omega)
  refine ⟨y3, some (.dat (.int ((Nat.gcd g x.natAbs : Nat) : Int))), some (.dat (.int (0 : Nat))), ?_⟩
  have a1 : (fPar 4 5 (fConsA (fVar 1) (fConsA (fBi gAbs (fConsA (fVar 2) fNilA)) fNilA))) ⟨[x0, some (.dat (.int (g : Nat))), some (.dat (.int x)), x3, x4, x5], []⟩ = some (.nx (eSt x0 (some (.dat (.int (g : Nat)))) (some (.dat (.int x))) x3 g x.natAbs)) := by
    have ea : (if x < 0 then -x else x) = ((x.natAbs : Nat) : Int) := by split <;> omega
    simp only [fZip, zipD, gSum, intsOf, List.foldl_cons, List.foldl_nil, mkF, fRet, fRetL, fRetN, fSkip, fSeq, fNever, fSet, fAsg, fNew, fIfS, fDrop, fPar, fPar3, fSetc, fSetc2, fVar, fLit, fOp, fUn, fTup, fTup.datsOf, fLst, fNilA, fConsA, fStarA, fCelA, fOfL, fTru, fAndT, fOrT, fNotT, fAndV, fOrV, fNotV, fIf, fBi, fCall, fCallL, fCallFr, fPerm, callF, celOf, celsOk, norm, aName, aNil, aCons, aTup, setD, fSl, fIt, fItL, fItT, fFor, forGo, fLc, lcGo, fYes, wipeD, fCix, fList, fSlL, fPart, fNoPart, fChain, List.length_cons, List.length_nil, List.getElem?_cons_zero, List.getElem?_cons_succ, List.getElem?_nil, List.set_cons_zero, List.set_cons_succ, List.map_cons, List.map_nil, List.cons_append, List.nil_append, List.append_nil, List.replicate, List.take_zero, List.take_nil, List.take_succ_cons, ↓bsome, ↓msome, Option.bind_some, Option.map_some, Option.bind_none, Option.map_none, Nat.sub_self, Int.cast_ofNat_Int, Nat.reduceAdd, Nat.reduceMul, Nat.reduceSub, Nat.reduceLeDiff, Nat.reduceLT, Nat.zero_add, Nat.add_zero, and_self, and_true, true_and, if_true, if_false, ↓reduceIte, ite_true, Bool.true_eq_false, Bool.false_eq_true, beq_self_eq_true, Bool.and_self, Bool.not_true, Bool.not_false, decide_true, decide_false, gLen, gTyIs, gTyNot, tyOf, gNeg, gPlus, DL.gSub, gCmp, gInt, gAbs, gTuple, gMax, gMin, gGcd, LIM, gIx, ea]
  have a2 : (fFor (fRng1 (fConsA (fLit (.int 3000)) fNilA)) (aName 3) EucB) (eSt x0 (some (.dat (.int (g : Nat)))) (some (.dat (.int x))) x3 g x.natAbs) = some (.nx (eSt x0 (some (.dat (.int (g : Nat)))) (some (.dat (.int x))) y3 (Nat.gcd g x.natAbs) 0)) := by
    unfold fFor
    rw [rg_of (J := 3000) rfl (by decide)]
    exact e
  exact (seq_nx a1).trans ((seq_nx a2).trans (by simp only [fZip, zipD, gSum, intsOf, List.foldl_cons, List.foldl_nil, mkF, fRet, fRetL, fRetN, fSkip, fSeq, fNever, fSet, fAsg, fNew, fIfS, fDrop, fPar, fPar3, fSetc, fSetc2, fVar, fLit, fOp, fUn, fTup, fTup.datsOf, fLst, fNilA, fConsA, fStarA, fCelA, fOfL, fTru, fAndT, fOrT, fNotT, fAndV, fOrV, fNotV, fIf, fBi, fCall, fCallL, fCallFr, fPerm, callF, celOf, celsOk, norm, aName, aNil, aCons, aTup, setD, fSl, fIt, fItL, fItT, fFor, forGo, fLc, lcGo, fYes, wipeD, fCix, fList, fSlL, fPart, fNoPart, fChain, List.length_cons, List.length_nil, List.getElem?_cons_zero, List.getElem?_cons_succ, List.getElem?_nil, List.set_cons_zero, List.set_cons_succ, List.map_cons, List.map_nil, List.cons_append, List.nil_append, List.append_nil, List.replicate, List.take_zero, List.take_nil, List.take_succ_cons, ↓bsome, ↓msome, Option.bind_some, Option.map_some, Option.bind_none, Option.map_none, Nat.sub_self, Int.cast_ofNat_Int, Nat.reduceAdd, Nat.reduceMul, Nat.reduceSub, Nat.reduceLeDiff, Nat.reduceLT, Nat.zero_add, Nat.add_zero, and_self, and_true, true_and, if_true, if_false, ↓reduceIte, ite_true, Bool.true_eq_false, Bool.false_eq_true, beq_self_eq_true, Bool.and_self, Bool.not_true, Bool.not_false, decide_true, decide_false, gLen, gTyIs, gTyNot, tyOf, gNeg, gPlus, DL.gSub, gCmp, gInt, gAbs, gTuple, gMax, gMin, gGcd, LIM, gIx, ]))
theorem com_for (x0 : Option SV) : ∀ (v : List Int) (g : Nat) (x2 x3 x4 x5 : Option SV), (∀ x ∈ v, Sm 1400 x) → ∃ y2 y3 y4 y5, forGo (aName 2) ComB (v.map .int) ⟨[x0, some (.dat (.int (g : Nat))), x2, x3, x4, x5], []⟩ = some (.nx ⟨[x0, some (.dat (.int ((Nat.gcd g (gL v) : Nat) : Int))), y2, y3, y4, y5], []⟩)
  | [], g, x2, x3, x4, x5, _ => ⟨x2, x3, x4, x5, by simp [forGo, gL]⟩
  | x :: v, g, x2, x3, x4, x5, h => by
    obtain ⟨z3, z4, z5, e⟩ := com_1 x0 x2 x3 x4 x5 g x (h x List.mem_cons_self)
    obtain ⟨y2, y3, y4, y5, ih⟩ := com_for x0 v (Nat.gcd g x.natAbs) (some (.dat (.int x))) z3 z4 z5 fun y m => h y (List.mem_cons_of_mem _ m)
    refine ⟨y2, y3, y4, y5, ?_⟩
    rw [Nat.gcd_assoc] at ih
    generalize ComB = b at e ih ⊢
    simp only [List.map_cons, forGo, aName, setD, List.set_cons_succ, List.set_cons_zero, Option.bind_some, e]
    exact ih
theorem e_lcommon {v : List Int} {r : PyData} (h : IsRow v r) (hs : ∀ x ∈ v, Sm 1400 x) : F__law_common [.dat r] [] = some (.dat (.int (gL v : Nat)), []) := by
  obtain ⟨y2, y3, y4, y5, e⟩ := com_for (some (.dat r)) v 0 none none none none hs
  rw [Nat.gcd_zero_left] at e
  have e0 : b__law_common = (fSeq (fSet 1 (fLit (.int (0 : Nat)))) (fSeq (fFor (fIt (fVar 0)) (aName 2) ComB) (fRet (fVar 1)))) := rfl
  generalize ComB = b at e e0
  cases h <;> simp only [F__law_common, mkF, e0, fSeq, fSet, fLit, fFor, fIt, fVar, List.length_cons, List.length_nil, List.map_cons, List.map_nil, List.replicate, List.cons_append, List.nil_append, List.set_cons_zero, List.set_cons_succ, List.getElem?_cons_zero, List.getElem?_cons_succ, Option.bind_some, Option.map_some, e, fRet, Nat.reduceAdd, Nat.reduceSub, and_self, if_true, List.take_zero, Nat.zero_add]
theorem e_lleast {v : List Int} {r : PyData} (h : IsRow v r) (hs : ∀ x ∈ v, Sm 1400 x) (hl : v.length ≤ 1000) : F__law_least [.dat r] [] = some (.dat (.tuple ((red v).map .int)), []) := by
  have h1 := mL_pos v
  have h2 := sm_mL (n := 4000) (by decide) fun x m => (hs x m).up 4000 (by decide)
  have h3 := e_lcommon h hs
  have h4 := lc_div (some (.dat r)) h1 h2 [] v
  have h5 : (v.map PyData.int).length ≤ 100000 := by rw [List.length_map]; omega
  have h6 := mL_max' v
  unfold red
  cases h <;> simp only [fZip, zipD, gSum, intsOf, List.foldl_cons, List.foldl_nil, mkF, fRet, fRetL, fRetN, fSkip, fSeq, fNever, fSet, fAsg, fNew, fIfS, fDrop, fPar, fPar3, fSetc, fSetc2, fVar, fLit, fOp, fUn, fTup, fTup.datsOf, fLst, fNilA, fConsA, fStarA, fCelA, fOfL, fTru, fAndT, fOrT, fNotT, fAndV, fOrV, fNotV, fIf, fBi, fCall, fCallL, fCallFr, fPerm, callF, celOf, celsOk, norm, aName, aNil, aCons, aTup, setD, fSl, fIt, fItL, fItT, fFor, forGo, fLc, lcGo, fYes, wipeD, fCix, fList, fSlL, fPart, fNoPart, fChain, List.length_cons, List.length_nil, List.getElem?_cons_zero, List.getElem?_cons_succ, List.getElem?_nil, List.set_cons_zero, List.set_cons_succ, List.map_cons, List.map_nil, List.cons_append, List.nil_append, List.append_nil, List.replicate, List.take_zero, List.take_nil, List.take_succ_cons, ↓bsome, ↓msome, Option.bind_some, Option.map_some, Option.bind_none, Option.map_none, Nat.sub_self, Int.cast_ofNat_Int, Nat.reduceAdd, Nat.reduceMul, Nat.reduceSub, Nat.reduceLeDiff, Nat.reduceLT, Nat.zero_add, Nat.add_zero, and_self, and_true, true_and, if_true, if_false, ↓reduceIte, ite_true, Bool.true_eq_false, Bool.false_eq_true, beq_self_eq_true, Bool.and_self, Bool.not_true, Bool.not_false, decide_true, decide_false, gLen, gTyIs, gTyNot, tyOf, gNeg, gPlus, DL.gSub, gCmp, gInt, gAbs, gTuple, gMax, gMin, gGcd, LIM, gIx, F__law_least, b__law_least, h3, h6, h4, h5]
section
variable {a b c d e : Int}
theorem e_ll2 (ha : Sm 1400 a) (hb : Sm 1400 b) : F__law_least [.dat (T2 a b)] [] = some (.dat (T2 (a / mL [a, b]) (b / mL [a, b])), []) := e_lleast (v := [a, b]) .t (m2 ha hb) (by simp)
theorem e_ll4 (ha : Sm 1400 a) (hb : Sm 1400 b) (hc : Sm 1400 c) (hd : Sm 1400 d) : F__law_least [.dat (T4 a b c d)] [] = some (.dat (R4 a b c d), []) := e_lleast (v := [a, b, c, d]) .t (m4 ha hb hc hd) (by simp)
theorem e_ll5 (ha : Sm 1400 a) (hb : Sm 1400 b) (hc : Sm 1400 c) (hd : Sm 1400 d) (he : Sm 1400 e) : F__law_least [.dat (T5 a b c d e)] [] = some (.dat (R5 a b c d e), []) := e_lleast (v := [a, b, c, d, e]) .t (m5 ha hb hc hd he) (by simp)
theorem e_lll5 (ha : Sm 1400 a) (hb : Sm 1400 b) (hc : Sm 1400 c) (hd : Sm 1400 d) (he : Sm 1400 e) : F__law_least [.dat (L5 a b c d e)] [] = some (.dat (R5 a b c d e), []) := e_lleast (v := [a, b, c, d, e]) .l (m5 ha hb hc hd he) (by simp)
end
theorem e_lratio {p q : Int} (hq : 0 < q) (hp : Sm 1400 p) (hq' : Sm 1400 q) : F__law_ratio [.dat (.int p), .dat (.int q)] [] = some (.dat (Rt p q), []) := by
  have e1 := e_ll2 hp hq'
  have e2 := rg_red (p := p) hq
  simp only [red, List.map_cons, List.map_nil, List.cons.injEq, and_true] at e2
  rw [← e2.1, ← e2.2] at e1
  have h3 : 0 < q / rg p q := (rt_fr (n := 1400) hq hp.sz hq'.sz).q0
  simp only [fZip, zipD, gSum, intsOf, List.foldl_cons, List.foldl_nil, mkF, fRet, fRetL, fRetN, fSkip, fSeq, fNever, fSet, fAsg, fNew, fIfS, fDrop, fPar, fPar3, fSetc, fSetc2, fVar, fLit, fOp, fUn, fTup, fTup.datsOf, fLst, fNilA, fConsA, fStarA, fCelA, fOfL, fTru, fAndT, fOrT, fNotT, fAndV, fOrV, fNotV, fIf, fBi, fCall, fCallL, fCallFr, fPerm, callF, celOf, celsOk, norm, aName, aNil, aCons, aTup, setD, fSl, fIt, fItL, fItT, fFor, forGo, fLc, lcGo, fYes, wipeD, fCix, fList, fSlL, fPart, fNoPart, fChain, List.length_cons, List.length_nil, List.getElem?_cons_zero, List.getElem?_cons_succ, List.getElem?_nil, List.set_cons_zero, List.set_cons_succ, List.map_cons, List.map_nil, List.cons_append, List.nil_append, List.append_nil, List.replicate, List.take_zero, List.take_nil, List.take_succ_cons, ↓bsome, ↓msome, Option.bind_some, Option.map_some, Option.bind_none, Option.map_none, Nat.sub_self, Int.cast_ofNat_Int, Nat.reduceAdd, Nat.reduceMul, Nat.reduceSub, Nat.reduceLeDiff, Nat.reduceLT, Nat.zero_add, Nat.add_zero, and_self, and_true, true_and, if_true, if_false, ↓reduceIte, ite_true, Bool.true_eq_false, Bool.false_eq_true, beq_self_eq_true, Bool.and_self, Bool.not_true, Bool.not_false, decide_true, decide_false, gLen, gTyIs, gTyNot, tyOf, gNeg, gPlus, DL.gSub, gCmp, gInt, gAbs, gTuple, gMax, gMin, gGcd, LIM, gIx, F__law_ratio, b__law_ratio, e1, h3]
/-! lights and kinds out of any row -/
theorem div_mul {v : List Int} {x : Int} (h : x ∈ v) : x = x / mL v * mL v := (Int.ediv_mul_cancel (mL_dvd h)).symm
theorem lt_R5 {m : Nat} {i q u v n : Int} (i0 : 0 ≤ i) (n0 : 0 < n) (hc : 0 ≤ i * i - (q * q + u * u + v * v)) (si : Sz m i) (sq : Sz m q) (su : Sz m u) (sv : Sz m v) (sn : Sz m n) :
    Lt m (i / mL [i, q, u, v, n]) (q / mL [i, q, u, v, n]) (u / mL [i, q, u, v, n]) (v / mL [i, q, u, v, n]) (n / mL [i, q, u, v, n]) := by
  have hM := mL_pos [i, q, u, v, n]
  have hg := gL_red (v := [i, q, u, v, n]) (gL_ne (x := n) (by simp) (by omega))
  have d1 := div_mul (v := [i, q, u, v, n]) (x := i) (by simp)
  have d2 := div_mul (v := [i, q, u, v, n]) (x := q) (by simp)
  have d3 := div_mul (v := [i, q, u, v, n]) (x := u) (by simp)
  have d4 := div_mul (v := [i, q, u, v, n]) (x := v) (by simp)
  have d5 := div_mul (v := [i, q, u, v, n]) (x := n) (by simp)
  refine ⟨Int.ediv_nonneg i0 (by omega), Int.ediv_pos_of_pos_of_dvd n0 (by omega) (mL_dvd (by simp)), ?_, hg, si.div, sq.div, su.div, sv.div, sn.div⟩
  generalize mL [i, q, u, v, n] = M at *
  generalize i / M = i', q / M = q', u / M = u', v / M = v' at *
  subst d1 d2 d3 d4
  have e : i' * M * (i' * M) - (q' * M * (q' * M) + u' * M * (u' * M) + v' * M * (v' * M)) = (M * M) * (i' * i' - (q' * q' + u' * u' + v' * v')) := by grind
  rw [e] at hc
  exact Int.nonneg_of_mul_nonneg_right hc (Int.mul_pos hM hM)
theorem kd_R4 {m : Nat} {q u v n : Int} (n0 : 0 < n) (hc : q * q + u * u + v * v = n * n) (sq : Sz m q) (su : Sz m u) (sv : Sz m v) (sn : Sz m n) :
    Kd m (q / mL [q, u, v, n]) (u / mL [q, u, v, n]) (v / mL [q, u, v, n]) (n / mL [q, u, v, n]) := by
  have hM := mL_pos [q, u, v, n]
  have hg := gL_red (v := [q, u, v, n]) (gL_ne (x := n) (by simp) (by omega))
  have d2 := div_mul (v := [q, u, v, n]) (x := q) (by simp)
  have d3 := div_mul (v := [q, u, v, n]) (x := u) (by simp)
  have d4 := div_mul (v := [q, u, v, n]) (x := v) (by simp)
  have d5 := div_mul (v := [q, u, v, n]) (x := n) (by simp)
  refine ⟨Int.ediv_pos_of_pos_of_dvd n0 (by omega) (mL_dvd (by simp)), ?_, hg, sq.div, su.div, sv.div, sn.div⟩
  generalize mL [q, u, v, n] = M at *
  generalize q / M = q', u / M = u', v / M = v', n / M = n' at *
  subst d2 d3 d4 d5
  have hMM : M * M ≠ 0 := Int.ne_of_gt (Int.mul_pos hM hM)
  refine Int.eq_of_mul_eq_mul_left hMM ?_
  grind
theorem lk_R4 {m : Nat} {a b c d : Int} (a0 : 0 < a) (hc : 0 ≤ a * a - (b * b + c * c + d * d)) (sa : Sz m a) (sb : Sz m b) (sc : Sz m c) (sd : Sz m d) :
    Lk m (a / mL [a, b, c, d]) (b / mL [a, b, c, d]) (c / mL [a, b, c, d]) (d / mL [a, b, c, d]) := by
  have hM := mL_pos [a, b, c, d]
  have hg := gL_red (v := [a, b, c, d]) (gL_ne (x := a) (by simp) (by omega))
  have d1 := div_mul (v := [a, b, c, d]) (x := a) (by simp)
  have d2 := div_mul (v := [a, b, c, d]) (x := b) (by simp)
  have d3 := div_mul (v := [a, b, c, d]) (x := c) (by simp)
  have d4 := div_mul (v := [a, b, c, d]) (x := d) (by simp)
  refine ⟨Int.ediv_nonneg (by omega) (by omega), ?_, hg, sa.div, sb.div, sc.div, sd.div⟩
  generalize mL [a, b, c, d] = M at *
  generalize a / M = i', b / M = q', c / M = u', d / M = v' at *
  subst d1 d2 d3 d4
  have e : i' * M * (i' * M) - (q' * M * (q' * M) + u' * M * (u' * M) + v' * M * (v' * M)) = (M * M) * (i' * i' - (q' * q' + u' * u' + v' * v')) := by grind
  rw [e] at hc
  exact Int.nonneg_of_mul_nonneg_right hc (Int.mul_pos hM hM)
end PL


set_option Elab.async false
set_option linter.all false
set_option maxRecDepth 100000
set_option maxHeartbeats 400000
set_option exponentiation.threshold 20000
namespace PL
open PySem PySem.Spec L2 DL
/-! the law's own root -/
abbrev RtA : FS := (fSeq (fIfS (fTru (fOp (gCmp fun i j => decide (j < i)) (fOp gMul (fVar 3) (fVar 3)) (fVar 0))) (fun st => some (.bk st)) fSkip) (fSet 3 (fOp gMul (fVar 3) (fLit (.int 2)))))
abbrev RtB : FS := (fSeq (fIfS (fTru (fOp (gCmp fun i j => decide (i < j)) (fOp gSub (fVar 3) (fVar 2)) (fLit (.int 2)))) (fun st => some (.bk st)) fSkip) (fSeq (fSet 4 (fOp gDiv (fOp gPlus (fVar 2) (fVar 3)) (fLit (.int 2)))) (fIfS (fTru (fOp (gCmp fun i j => decide (j < i)) (fOp gMul (fVar 4) (fVar 4)) (fVar 0))) (fSet 3 (fVar 4)) (fSet 2 (fVar 4)))))
abbrev rSt (T : Int) (x1 : Option SV) (lo hi : Int) (x4 : Option SV) : Sta := ⟨[some (.dat (.int T)), x1, some (.dat (.int lo)), some (.dat (.int hi)), x4], []⟩
theorem sm_pow {j : Nat} (h : j ≤ 700) : Sm 4000 ((2 : Int) ^ j) := by
  unfold Sm
  rw [Int.natAbs_pow]
  exact Nat.pow_lt_pow_right (by decide) (by omega)
theorem rtA_go (T : Int) (lo : Int) (x4 : Option SV) : ∀ (d j : Nat) (x1 : Option SV) (ks : List PyData), T < (2 : Int) ^ (j + d) * (2 : Int) ^ (j + d) → d < ks.length → j + d ≤ 300 →
    ∃ (J : Nat) (y1 : Option SV), forGo (aName 1) RtA ks (rSt T x1 lo (2 ^ j) x4) = some (.nx (rSt T y1 lo (2 ^ J) x4)) ∧ T < (2 : Int) ^ J * (2 : Int) ^ J ∧ J ≤ 300
  | d, j, x1, [], h, hl, hj => by simp at hl
  | d, j, x1, k :: ks, h, hl, hj => by
    have hs := sm_pow (show j ≤ 700 by omega)
    have hm := gMul_ok hs hs
    by_cases hb : T < (2 : Int) ^ j * (2 : Int) ^ j
    · refine ⟨j, some (.dat k), ?_, hb, by omega⟩
      have hb' : (decide (T < (2 : Int) ^ j * (2 : Int) ^ j)) = true := decide_eq_true hb
      simp only [fZip, zipD, gSum, intsOf, List.foldl_cons, List.foldl_nil, mkF, fRet, fRetL, fRetN, fSkip, fSeq, fNever, fSet, fAsg, fNew, fIfS, fDrop, fPar, fPar3, fSetc, fSetc2, fVar, fLit, fOp, fUn, fTup, fTup.datsOf, fLst, fNilA, fConsA, fStarA, fCelA, fOfL, fTru, fAndT, fOrT, fNotT, fAndV, fOrV, fNotV, fIf, fBi, fCall, fCallL, fCallFr, fPerm, callF, celOf, celsOk, norm, aName, aNil, aCons, aTup, setD, fSl, fIt, fItL, fItT, fFor, forGo, fLc, lcGo, fYes, wipeD, fCix, fList, fSlL, fPart, fNoPart, fChain, List.length_cons, List.length_nil, List.getElem?_cons_zero, List.getElem?_cons_succ, List.getElem?_nil, List.set_cons_zero, List.set_cons_succ, List.map_cons, List.map_nil, List.cons_append, List.nil_append, List.append_nil, List.replicate, List.take_zero, List.take_nil, List.take_succ_cons, ↓bsome, ↓msome, Option.bind_some, Option.map_some, Option.bind_none, Option.map_none, Nat.sub_self, Int.cast_ofNat_Int, Nat.reduceAdd, Nat.reduceMul, Nat.reduceSub, Nat.reduceLeDiff, Nat.reduceLT, Nat.zero_add, Nat.add_zero, and_self, and_true, true_and, if_true, if_false, ↓reduceIte, ite_true, Bool.true_eq_false, Bool.false_eq_true, beq_self_eq_true, Bool.and_self, Bool.not_true, Bool.not_false, decide_true, decide_false, gLen, gTyIs, gTyNot, tyOf, gNeg, gPlus, DL.gSub, gCmp, gInt, gAbs, gTuple, gMax, gMin, gGcd, LIM, gIx, hm, hb']
    · cases d with
      | zero => exact absurd (by simpa using h) hb
      | succ d =>
        have hb' : (decide (T < (2 : Int) ^ j * (2 : Int) ^ j)) = false := decide_eq_false hb
        have hm2 : gMul (.int ((2 : Int) ^ j)) (.int 2) = some (.int ((2 : Int) ^ (j + 1))) := by
          rw [gMul_ok hs (Sz.lit2 (by decide)).sm, Int.pow_succ]
        have e : RtA (rSt T (some (.dat k)) lo (2 ^ j) x4) = some (.nx (rSt T (some (.dat k)) lo (2 ^ (j + 1)) x4)) := by
          simp only [fZip, zipD, gSum, intsOf, List.foldl_cons, List.foldl_nil, mkF, fRet, fRetL, fRetN, fSkip, fSeq, fNever, fSet, fAsg, fNew, fIfS, fDrop, fPar, fPar3, fSetc, fSetc2, fVar, fLit, fOp, fUn, fTup, fTup.datsOf, fLst, fNilA, fConsA, fStarA, fCelA, fOfL, fTru, fAndT, fOrT, fNotT, fAndV, fOrV, fNotV, fIf, fBi, fCall, fCallL, fCallFr, fPerm, callF, celOf, celsOk, norm, aName, aNil, aCons, aTup, setD, fSl, fIt, fItL, fItT, fFor, forGo, fLc, lcGo, fYes, wipeD, fCix, fList, fSlL, fPart, fNoPart, fChain, List.length_cons, List.length_nil, List.getElem?_cons_zero, List.getElem?_cons_succ, List.getElem?_nil, List.set_cons_zero, List.set_cons_succ, List.map_cons, List.map_nil, List.cons_append, List.nil_append, List.append_nil, List.replicate, List.take_zero, List.take_nil, List.take_succ_cons, ↓bsome, ↓msome, Option.bind_some, Option.map_some, Option.bind_none, Option.map_none, Nat.sub_self, Int.cast_ofNat_Int, Nat.reduceAdd, Nat.reduceMul, Nat.reduceSub, Nat.reduceLeDiff, Nat.reduceLT, Nat.zero_add, Nat.add_zero, and_self, and_true, true_and, if_true, if_false, ↓reduceIte, ite_true, Bool.true_eq_false, Bool.false_eq_true, beq_self_eq_true, Bool.and_self, Bool.not_true, Bool.not_false, decide_true, decide_false, gLen, gTyIs, gTyNot, tyOf, gNeg, gPlus, DL.gSub, gCmp, gInt, gAbs, gTuple, gMax, gMin, gGcd, LIM, gIx, hm, hb', hm2]
        obtain ⟨J, y1, ih, hJ⟩ := rtA_go T lo x4 d (j + 1) (some (.dat k)) ks (by rw [show j + 1 + d = j + (d + 1) by omega]; exact h) (by simp only [List.length_cons] at hl; omega) (by omega)
        refine ⟨J, y1, ?_, hJ⟩
        generalize RtA = b at e ih ⊢
        simp only [forGo, aName, setD, List.set_cons_succ, List.set_cons_zero, Option.bind_some, e]
        exact ih
theorem sq_lt {a b : Int} (h0 : 0 ≤ a) (h : a * a < b * b) (hb : 0 ≤ b) : a < b := Classical.byContradiction fun n => by
  have := Int.mul_le_mul (show b ≤ a by omega) (show b ≤ a by omega) hb h0
  omega
theorem rtB_go (T : Int) : ∀ (d : Nat) (lo hi : Int) (x1 x4 : Option SV) (ks : List PyData), 0 ≤ lo → lo < hi → Sz 301 hi → lo * lo ≤ T → T < hi * hi → hi - lo ≤ (2 : Int) ^ d → d < ks.length →
    ∃ (r : Int) (y1 y3 y4 : Option SV), forGo (aName 1) RtB ks (rSt T x1 lo hi x4) = some (.nx ⟨[some (.dat (.int T)), y1, some (.dat (.int r)), y3, y4], []⟩) ∧ 0 ≤ r ∧ r * r ≤ T ∧ T < (r + 1) * (r + 1)
  | d, lo, hi, x1, x4, [], h0, h1, hs, h2, h3, h4, hl => by simp at hl
  | d, lo, hi, x1, x4, k :: ks, h0, h1, hs, h2, h3, h4, hl => by
    by_cases hb : hi - lo < 2
    · refine ⟨lo, some (.dat k), some (.dat (.int hi)), x4, ?_, h0, h2, ?_⟩
      · have hb' : (decide (hi - lo < 2)) = true := decide_eq_true hb
        simp only [fZip, zipD, gSum, intsOf, List.foldl_cons, List.foldl_nil, mkF, fRet, fRetL, fRetN, fSkip, fSeq, fNever, fSet, fAsg, fNew, fIfS, fDrop, fPar, fPar3, fSetc, fSetc2, fVar, fLit, fOp, fUn, fTup, fTup.datsOf, fLst, fNilA, fConsA, fStarA, fCelA, fOfL, fTru, fAndT, fOrT, fNotT, fAndV, fOrV, fNotV, fIf, fBi, fCall, fCallL, fCallFr, fPerm, callF, celOf, celsOk, norm, aName, aNil, aCons, aTup, setD, fSl, fIt, fItL, fItT, fFor, forGo, fLc, lcGo, fYes, wipeD, fCix, fList, fSlL, fPart, fNoPart, fChain, List.length_cons, List.length_nil, List.getElem?_cons_zero, List.getElem?_cons_succ, List.getElem?_nil, List.set_cons_zero, List.set_cons_succ, List.map_cons, List.map_nil, List.cons_append, List.nil_append, List.append_nil, List.replicate, List.take_zero, List.take_nil, List.take_succ_cons, ↓bsome, ↓msome, Option.bind_some, Option.map_some, Option.bind_none, Option.map_none, Nat.sub_self, Int.cast_ofNat_Int, Nat.reduceAdd, Nat.reduceMul, Nat.reduceSub, Nat.reduceLeDiff, Nat.reduceLT, Nat.zero_add, Nat.add_zero, and_self, and_true, true_and, if_true, if_false, ↓reduceIte, ite_true, Bool.true_eq_false, Bool.false_eq_true, beq_self_eq_true, Bool.and_self, Bool.not_true, Bool.not_false, decide_true, decide_false, gLen, gTyIs, gTyNot, tyOf, gNeg, gPlus, DL.gSub, gCmp, gInt, gAbs, gTuple, gMax, gMin, gGcd, LIM, gIx, hb']
      · have : hi = lo + 1 := by omega
        rw [← this]; exact h3
    · cases d with
      | zero => simp at h4; omega
      | succ d =>
        have hb' : (decide (hi - lo < 2)) = false := decide_eq_false hb
        have hd : gDiv (.int (lo + hi)) (.int 2) = some (.int ((lo + hi) / 2)) := gDiv_ok (by decide) (Sz.lit2 (by decide)).sm
        generalize hmid : (lo + hi) / 2 = mid at hd
        have m1 : lo < mid := by omega
        have m2 : mid < hi := by omega
        have sm : Sz 301 mid := Sm.sz (by
          have := hs.sm (m := 301)
          unfold Sm at *; omega)
        have hm := gMul_ok (sm.sm (m := 4000)) (sm.sm (m := 4000))
        rw [Int.pow_succ] at h4
        by_cases hT : T < mid * mid
        · have hT' : (decide (T < mid * mid)) = true := decide_eq_true hT
          have e : RtB (rSt T (some (.dat k)) lo hi x4) = some (.nx (rSt T (some (.dat k)) lo mid (some (.dat (.int mid))))) := by
            simp only [fZip, zipD, gSum, intsOf, List.foldl_cons, List.foldl_nil, mkF, fRet, fRetL, fRetN, fSkip, fSeq, fNever, fSet, fAsg, fNew, fIfS, fDrop, fPar, fPar3, fSetc, fSetc2, fVar, fLit, fOp, fUn, fTup, fTup.datsOf, fLst, fNilA, fConsA, fStarA, fCelA, fOfL, fTru, fAndT, fOrT, fNotT, fAndV, fOrV, fNotV, fIf, fBi, fCall, fCallL, fCallFr, fPerm, callF, celOf, celsOk, norm, aName, aNil, aCons, aTup, setD, fSl, fIt, fItL, fItT, fFor, forGo, fLc, lcGo, fYes, wipeD, fCix, fList, fSlL, fPart, fNoPart, fChain, List.length_cons, List.length_nil, List.getElem?_cons_zero, List.getElem?_cons_succ, List.getElem?_nil, List.set_cons_zero, List.set_cons_succ, List.map_cons, List.map_nil, List.cons_append, List.nil_append, List.append_nil, List.replicate, List.take_zero, List.take_nil, List.take_succ_cons, ↓bsome, ↓msome, Option.bind_some, Option.map_some, Option.bind_none, Option.map_none, Nat.sub_self, Int.cast_ofNat_Int, Nat.reduceAdd, Nat.reduceMul, Nat.reduceSub, Nat.reduceLeDiff, Nat.reduceLT, Nat.zero_add, Nat.add_zero, and_self, and_true, true_and, if_true, if_false, ↓reduceIte, ite_true, Bool.true_eq_false, Bool.false_eq_true, beq_self_eq_true, Bool.and_self, Bool.not_true, Bool.not_false, decide_true, decide_false, gLen, gTyIs, gTyNot, tyOf, gNeg, gPlus, DL.gSub, gCmp, gInt, gAbs, gTuple, gMax, gMin, gGcd, LIM, gIx, hb', hd, hm, hT']
          obtain ⟨r, y1, y3, y4, ih, hr⟩ := rtB_go T d lo mid (some (.dat k)) (some (.dat (.int mid))) ks h0 m1 sm h2 hT (by omega) (by simp only [List.length_cons] at hl; omega)
          refine ⟨r, y1, y3, y4, ?_, hr⟩
          generalize RtB = b at e ih ⊢
          simp only [forGo, aName, setD, List.set_cons_succ, List.set_cons_zero, Option.bind_some, e]
          exact ih
        · have hT' : (decide (T < mid * mid)) = false := decide_eq_false hT
          have e : RtB (rSt T (some (.dat k)) lo hi x4) = some (.nx (rSt T (some (.dat k)) mid hi (some (.dat (.int mid))))) := by
            simp only [fZip, zipD, gSum, intsOf, List.foldl_cons, List.foldl_nil, mkF, fRet, fRetL, fRetN, fSkip, fSeq, fNever, fSet, fAsg, fNew, fIfS, fDrop, fPar, fPar3, fSetc, fSetc2, fVar, fLit, fOp, fUn, fTup, fTup.datsOf, fLst, fNilA, fConsA, fStarA, fCelA, fOfL, fTru, fAndT, fOrT, fNotT, fAndV, fOrV, fNotV, fIf, fBi, fCall, fCallL, fCallFr, fPerm, callF, celOf, celsOk, norm, aName, aNil, aCons, aTup, setD, fSl, fIt, fItL, fItT, fFor, forGo, fLc, lcGo, fYes, wipeD, fCix, fList, fSlL, fPart, fNoPart, fChain, List.length_cons, List.length_nil, List.getElem?_cons_zero, List.getElem?_cons_succ, List.getElem?_nil, List.set_cons_zero, List.set_cons_succ, List.map_cons, List.map_nil, List.cons_append, List.nil_append, List.append_nil, List.replicate, List.take_zero, List.take_nil, List.take_succ_cons, ↓bsome, ↓msome, Option.bind_some, Option.map_some, Option.bind_none, Option.map_none, Nat.sub_self, Int.cast_ofNat_Int, Nat.reduceAdd, Nat.reduceMul, Nat.reduceSub, Nat.reduceLeDiff, Nat.reduceLT, Nat.zero_add, Nat.add_zero, and_self, and_true, true_and, if_true, if_false, ↓reduceIte, ite_true, Bool.true_eq_false, Bool.false_eq_true, beq_self_eq_true, Bool.and_self, Bool.not_true, Bool.not_false, decide_true, decide_false, gLen, gTyIs, gTyNot, tyOf, gNeg, gPlus, DL.gSub, gCmp, gInt, gAbs, gTuple, gMax, gMin, gGcd, LIM, gIx, hb', hd, hm, hT']
          obtain ⟨r, y1, y3, y4, ih, hr⟩ := rtB_go T d mid hi (some (.dat k)) (some (.dat (.int mid))) ks (by omega) m2 hs (by omega) h3 (by omega) (by simp only [List.length_cons] at hl; omega)
          refine ⟨r, y1, y3, y4, ?_, hr⟩
          generalize RtB = b at e ih ⊢
          simp only [forGo, aName, setD, List.set_cons_succ, List.set_cons_zero, Option.bind_some, e]
          exact ih
theorem e_lroot {T : Int} (h0 : 0 ≤ T) (h1 : Sm 500 T) : ∃ r, F__law_root [.dat (.int T)] [] = some (.dat (.int r), []) ∧ 0 ≤ r ∧ r * r ≤ T ∧ T < (r + 1) * (r + 1) := by
  have hT : T < (2 : Int) ^ (0 + 250) * (2 : Int) ^ (0 + 250) := by
    rw [← Int.pow_add]
    have : (T.natAbs : Int) < ((2 ^ 500 : Nat) : Int) := Int.ofNat_lt.mpr h1
    rw [Int.natCast_pow] at this
    have e : ((2 : Nat) : Int) ^ 500 = (2 : Int) ^ (0 + 250 + (0 + 250)) := rfl
    rw [← e]
    omega
  obtain ⟨J, y1, e1, hJ, hJ3⟩ := rtA_go T 0 none 250 0 none (rangeD 0 600) hT (by rw [rangeD_len]; omega) (by omega)
  have hp : (0 : Int) < 2 ^ J := Int.pow_pos (by decide)
  have hs : Sz 301 ((2 : Int) ^ J) := Sm.sz (by
    unfold Sm
    rw [Int.natAbs_pow]
    exact Nat.pow_lt_pow_right (by decide) (by omega))
  have hd : (2 : Int) ^ J - 0 ≤ 2 ^ J := by omega
  obtain ⟨r, z1, z3, z4, e2, hr⟩ := rtB_go T J 0 (2 ^ J) y1 none (rangeD 0 600) (by decide) hp hs (by simpa using h0) hJ hd (by rw [rangeD_len]; omega)
  refine ⟨r, ?_, hr⟩
  have a1 : (fAsg (aTup 2 (aCons (aName 2) (aCons (aName 3) aNil))) (fTup (fConsA (fLit (.int 0)) (fConsA (fLit (.int 1)) fNilA)))) ⟨[some (.dat (.int T)), none, none, none, none], []⟩ = some (.nx (rSt T none 0 (2 ^ 0) none)) := by
    simp only [fZip, zipD, gSum, intsOf, List.foldl_cons, List.foldl_nil, mkF, fRet, fRetL, fRetN, fSkip, fSeq, fNever, fSet, fAsg, fNew, fIfS, fDrop, fPar, fPar3, fSetc, fSetc2, fVar, fLit, fOp, fUn, fTup, fTup.datsOf, fLst, fNilA, fConsA, fStarA, fCelA, fOfL, fTru, fAndT, fOrT, fNotT, fAndV, fOrV, fNotV, fIf, fBi, fCall, fCallL, fCallFr, fPerm, callF, celOf, celsOk, norm, aName, aNil, aCons, aTup, setD, fSl, fIt, fItL, fItT, fFor, forGo, fLc, lcGo, fYes, wipeD, fCix, fList, fSlL, fPart, fNoPart, fChain, List.length_cons, List.length_nil, List.getElem?_cons_zero, List.getElem?_cons_succ, List.getElem?_nil, List.set_cons_zero, List.set_cons_succ, List.map_cons, List.map_nil, List.cons_append, List.nil_append, List.append_nil, List.replicate, List.take_zero, List.take_nil, List.take_succ_cons, ↓bsome, ↓msome, Option.bind_some, Option.map_some, Option.bind_none, Option.map_none, Nat.sub_self, Int.cast_ofNat_Int, Nat.reduceAdd, Nat.reduceMul, Nat.reduceSub, Nat.reduceLeDiff, Nat.reduceLT, Nat.zero_add, Nat.add_zero, and_self, and_true, true_and, if_true, if_false, ↓reduceIte, ite_true, Bool.true_eq_false, Bool.false_eq_true, beq_self_eq_true, Bool.and_self, Bool.not_true, Bool.not_false, decide_true, decide_false, gLen, gTyIs, gTyNot, tyOf, gNeg, gPlus, DL.gSub, gCmp, gInt, gAbs, gTuple, gMax, gMin, gGcd, LIM, gIx, ]
    rfl
  have a2 : (fFor (fRng1 (fConsA (fLit (.int 600)) fNilA)) (aName 1) RtA) (rSt T none 0 (2 ^ 0) none) = some (.nx (rSt T y1 0 (2 ^ J) none)) := by
    unfold fFor
    rw [rg_of (J := 600) rfl (by decide)]
    exact e1
  have a3 : (fFor (fRng1 (fConsA (fLit (.int 600)) fNilA)) (aName 1) RtB) (rSt T y1 0 (2 ^ J) none) = some (.nx ⟨[some (.dat (.int T)), z1, some (.dat (.int r)), z3, z4], []⟩) := by
    unfold fFor
    rw [rg_of (J := 600) rfl (by decide)]
    exact e2
  have e0 : b__law_root = fSeq (fAsg (aTup 2 (aCons (aName 2) (aCons (aName 3) aNil))) (fTup (fConsA (fLit (.int 0)) (fConsA (fLit (.int 1)) fNilA)))) (fSeq (fFor (fRng1 (fConsA (fLit (.int 600)) fNilA)) (aName 1) RtA) (fSeq (fFor (fRng1 (fConsA (fLit (.int 600)) fNilA)) (aName 1) RtB) (fRet (fVar 2)))) := rfl
  have hall : b__law_root ⟨[.dat (.int T)].map some ++ List.replicate (5 - 1) none, []⟩ = some (.rt (.dat (.int r)) []) := by
    rw [e0]
    exact (seq_nx a1).trans ((seq_nx a2).trans ((seq_nx a3).trans rfl))
  unfold F__law_root mkF
  simp only [List.length_cons, List.length_nil, Nat.reduceAdd, and_self, if_true]
  rw [hall]; rfl
/-! what is drawn, further -/
theorem e_ldot3 {a b c a' b' c' : Int} (ha : Sm 4000 a) (hb : Sm 4000 b) (hc : Sm 4000 c) (ha' : Sm 4000 a') (hb' : Sm 4000 b') (hc' : Sm 4000 c') : F__law_dot [.dat (T3 a b c), .dat (T3 a' b' c')] [] = some (.dat (.int (a * a' + b * b' + c * c')), []) := by
  simp (maxDischargeDepth := 40) only [fZip, zipD, gSum, intsOf, List.foldl_cons, List.foldl_nil, mkF, fRet, fRetL, fRetN, fSkip, fSeq, fNever, fSet, fAsg, fNew, fIfS, fDrop, fPar, fPar3, fSetc, fSetc2, fVar, fLit, fOp, fUn, fTup, fTup.datsOf, fLst, fNilA, fConsA, fStarA, fCelA, fOfL, fTru, fAndT, fOrT, fNotT, fAndV, fOrV, fNotV, fIf, fBi, fCall, fCallL, fCallFr, fPerm, callF, celOf, celsOk, norm, aName, aNil, aCons, aTup, setD, fSl, fIt, fItL, fItT, fFor, forGo, fLc, lcGo, fYes, wipeD, fCix, fList, fSlL, fPart, fNoPart, fChain, List.length_cons, List.length_nil, List.getElem?_cons_zero, List.getElem?_cons_succ, List.getElem?_nil, List.set_cons_zero, List.set_cons_succ, List.map_cons, List.map_nil, List.cons_append, List.nil_append, List.append_nil, List.replicate, List.take_zero, List.take_nil, List.take_succ_cons, ↓bsome, ↓msome, Option.bind_some, Option.map_some, Option.bind_none, Option.map_none, Nat.sub_self, Int.cast_ofNat_Int, Nat.reduceAdd, Nat.reduceMul, Nat.reduceSub, Nat.reduceLeDiff, Nat.reduceLT, Nat.zero_add, Nat.add_zero, and_self, and_true, true_and, if_true, if_false, ↓reduceIte, ite_true, Bool.true_eq_false, Bool.false_eq_true, beq_self_eq_true, Bool.and_self, Bool.not_true, Bool.not_false, decide_true, decide_false, gLen, gTyIs, gTyNot, tyOf, gNeg, gPlus, DL.gSub, gCmp, gInt, gAbs, gTuple, gMax, gMin, gGcd, LIM, gIx, ix1_0, ix2_0, ix2_1, ix3_0, ix3_1, ix3_2, ix4_0, ix4_1, ix4_2, ix4_3, ix5_0, ix5_1, ix5_2, ix5_3, ix5_4, ix6_0, ix6_1, ix6_2, ix6_3, ix6_4, ix6_5, cut5_04, cut5_14, cut4_04, cut4_03, cut4_14, Sm.mul, Sm.add, Sm.sub, Sm.neg, Sm.div, Sm.lit, sz_0, sz_1, sz_2, sz_3, sz_4, sz_8, Nat.reduceDiv, Nat.reduceSub, Nat.reduceLT, Nat.reduceLeDiff, Int.reduceLT, Int.reduceNeg, Int.mul_pos, gMul_ok, gDiv_ok, gMod_ok, *, F__law_dot, b__law_dot, List.sum_cons, List.sum_nil, Int.add_zero, Int.add_assoc]
theorem mem6 {x a b c d e f : PyData} (h : x ∈ [a, b, c, d, e, f]) : x = a ∨ x = b ∨ x = c ∨ x = d ∨ x = e ∨ x = f := by simpa using h
theorem kd1 {q u v : Int} (h : (q, u, v) ∈ [((1 : Int), (0 : Int), (0 : Int)), (-1, 0, 0), (0, 1, 0), (0, -1, 0), (0, 0, 1), (0, 0, -1)]) : Kd 30 q u v 1 := by
  simp only [List.mem_cons, Prod.mk.injEq, List.not_mem_nil, or_false] at h
  rcases h with ⟨rfl, rfl, rfl⟩ | ⟨rfl, rfl, rfl⟩ | ⟨rfl, rfl, rfl⟩ | ⟨rfl, rfl, rfl⟩ | ⟨rfl, rfl, rfl⟩ | ⟨rfl, rfl, rfl⟩ <;>
    exact ⟨by decide, by decide, by decide, (Sz.lit2 (by decide)).by _ (by decide), (Sz.lit2 (by decide)).by _ (by decide), (Sz.lit2 (by decide)).by _ (by decide), (Sz.lit2 (by decide)).by _ (by decide)⟩
theorem sz30 {x : Int} (h : x.natAbs < 2 ^ 30) : Sz 30 x := Sm.sz h
theorem e_hue {k : Nat} {t : List PyData} (h : Tap (k + 5) t) : ∃ q u v n t', F__law_hue [.cel 0] [t] = some (.dat (T4 q u v n), [t']) ∧ Tap k t' ∧ Kd 30 q u v n := by
  obtain ⟨w, t1, e1, h1, w0, w1⟩ := e_from (m := 9) h (by decide) (by decide)
  by_cases hw : w < 6
  · have hx : ∃ q u v : Int, atI [T4 1 0 0 1, T4 (-1) 0 0 1, T4 0 1 0 1, T4 0 (-1) 0 1, T4 0 0 1 1, T4 0 0 (-1) 1] w = some (T4 q u v 1) ∧ (q, u, v) ∈ [((1 : Int), (0 : Int), (0 : Int)), (-1, 0, 0), (0, 1, 0), (0, -1, 0), (0, 0, 1), (0, 0, -1)] := by
      have hc : w = 0 ∨ w = 1 ∨ w = 2 ∨ w = 3 ∨ w = 4 ∨ w = 5 := by omega
      rcases hc with rfl | rfl | rfl | rfl | rfl | rfl
      · exact ⟨_, _, _, rfl, by simp⟩
      · exact ⟨_, _, _, rfl, by simp⟩
      · exact ⟨_, _, _, rfl, by simp⟩
      · exact ⟨_, _, _, rfl, by simp⟩
      · exact ⟨_, _, _, rfl, by simp⟩
      · exact ⟨_, _, _, rfl, by simp⟩
    obtain ⟨q, u, v, ex, hm⟩ := hx
    refine ⟨q, u, v, 1, t1, ?_, h1.le (by omega), kd1 hm⟩
    simp (maxDischargeDepth := 40) only [fZip, zipD, gSum, intsOf, List.foldl_cons, List.foldl_nil, mkF, fRet, fRetL, fRetN, fSkip, fSeq, fNever, fSet, fAsg, fNew, fIfS, fDrop, fPar, fPar3, fSetc, fSetc2, fVar, fLit, fOp, fUn, fTup, fTup.datsOf, fLst, fNilA, fConsA, fStarA, fCelA, fOfL, fTru, fAndT, fOrT, fNotT, fAndV, fOrV, fNotV, fIf, fBi, fCall, fCallL, fCallFr, fPerm, callF, celOf, celsOk, norm, aName, aNil, aCons, aTup, setD, fSl, fIt, fItL, fItT, fFor, forGo, fLc, lcGo, fYes, wipeD, fCix, fList, fSlL, fPart, fNoPart, fChain, List.length_cons, List.length_nil, List.getElem?_cons_zero, List.getElem?_cons_succ, List.getElem?_nil, List.set_cons_zero, List.set_cons_succ, List.map_cons, List.map_nil, List.cons_append, List.nil_append, List.append_nil, List.replicate, List.take_zero, List.take_nil, List.take_succ_cons, ↓bsome, ↓msome, Option.bind_some, Option.map_some, Option.bind_none, Option.map_none, Nat.sub_self, Int.cast_ofNat_Int, Nat.reduceAdd, Nat.reduceMul, Nat.reduceSub, Nat.reduceLeDiff, Nat.reduceLT, Nat.zero_add, Nat.add_zero, and_self, and_true, true_and, if_true, if_false, ↓reduceIte, ite_true, Bool.true_eq_false, Bool.false_eq_true, beq_self_eq_true, Bool.and_self, Bool.not_true, Bool.not_false, decide_true, decide_false, gLen, gTyIs, gTyNot, tyOf, gNeg, gPlus, DL.gSub, gCmp, gInt, gAbs, gTuple, gMax, gMin, gGcd, LIM, gIx, ix1_0, ix2_0, ix2_1, ix3_0, ix3_1, ix3_2, ix4_0, ix4_1, ix4_2, ix4_3, ix5_0, ix5_1, ix5_2, ix5_3, ix5_4, ix6_0, ix6_1, ix6_2, ix6_3, ix6_4, ix6_5, cut5_04, cut5_14, cut4_04, cut4_03, cut4_14, Sm.mul, Sm.add, Sm.sub, Sm.neg, Sm.div, Sm.lit, sz_0, sz_1, sz_2, sz_3, sz_4, sz_8, Nat.reduceDiv, Nat.reduceSub, Nat.reduceLT, Nat.reduceLeDiff, Int.reduceLT, Int.reduceNeg, Int.mul_pos, gMul_ok, gDiv_ok, gMod_ok, F__law_hue, b__law_hue, e1, hw, ex]
  · obtain ⟨z, t2, e2, h2, hz⟩ := e_pickn [2, 2, 5] h1 (by decide) (by decide)
    have z0 : 0 < z ∧ z ≤ 5 := by simp only [List.mem_cons, List.not_mem_nil, or_false] at hz; omega
    have hm : gMul (.int 2) (.int z) = some (.int (2 * z)) := gMul_sm (by decide) (by decide) (by omega) (by omega)
    obtain ⟨x, t3, e3, h3, x0, x1⟩ := e_from (m := 2 * z + 1) h2 (by omega) (by omega)
    obtain ⟨y, t4, e4, h4, y0, y1⟩ := e_from (m := 2 * z + 1) h3 (by omega) (by omega)
    obtain ⟨r, t5, e5, h5, r0, r1⟩ := e_from (m := z) h4 (by omega) (by omega)
    have sx : Sz 5 (x - z) := Sm.sz (by unfold Sm; omega)
    have sy : Sz 5 (y - z) := Sm.sz (by unfold Sm; omega)
    have sr : Sz 5 (1 + r) := Sm.sz (by unfold Sm; omega)
    have hr : 0 < 1 + r := by omega
    simp only [List.map_cons, List.map_nil] at e2
    have hp := Int.mul_pos hr hr
    have hX := sq_nn (x - z)
    have hY := sq_nn (y - z)
    refine ⟨_, _, _, _, t5, ?_, h5, kd_R4 (m := 30) (q := 2 * (x - z) * (1 + r)) (u := 2 * (y - z) * (1 + r)) (v := (1 + r) * (1 + r) - (x - z) * (x - z) - (y - z) * (y - z)) (n := (1 + r) * (1 + r) + (x - z) * (x - z) + (y - z) * (y - z)) (by omega) ?_ (by (apply Sz.by; (repeat (first | assumption | exact sz_0 | exact sz_1 | exact sz_2 | exact sz_3 | exact sz_4 | exact sz_8 | exact Sz.of40 (by decide) | apply Sz.mul | apply Sz.add | apply Sz.sub | apply Sz.neg | apply Sz.div)); decide)) (by (apply Sz.by; (repeat (first | assumption | exact sz_0 | exact sz_1 | exact sz_2 | exact sz_3 | exact sz_4 | exact sz_8 | exact Sz.of40 (by decide) | apply Sz.mul | apply Sz.add | apply Sz.sub | apply Sz.neg | apply Sz.div)); decide)) (by (apply Sz.by; (repeat (first | assumption | exact sz_0 | exact sz_1 | exact sz_2 | exact sz_3 | exact sz_4 | exact sz_8 | exact Sz.of40 (by decide) | apply Sz.mul | apply Sz.add | apply Sz.sub | apply Sz.neg | apply Sz.div)); decide)) (by (apply Sz.by; (repeat (first | assumption | exact sz_0 | exact sz_1 | exact sz_2 | exact sz_3 | exact sz_4 | exact sz_8 | exact Sz.of40 (by decide) | apply Sz.mul | apply Sz.add | apply Sz.sub | apply Sz.neg | apply Sz.div)); decide))⟩
    · simp (maxDischargeDepth := 40) only [fZip, zipD, gSum, intsOf, List.foldl_cons, List.foldl_nil, mkF, fRet, fRetL, fRetN, fSkip, fSeq, fNever, fSet, fAsg, fNew, fIfS, fDrop, fPar, fPar3, fSetc, fSetc2, fVar, fLit, fOp, fUn, fTup, fTup.datsOf, fLst, fNilA, fConsA, fStarA, fCelA, fOfL, fTru, fAndT, fOrT, fNotT, fAndV, fOrV, fNotV, fIf, fBi, fCall, fCallL, fCallFr, fPerm, callF, celOf, celsOk, norm, aName, aNil, aCons, aTup, setD, fSl, fIt, fItL, fItT, fFor, forGo, fLc, lcGo, fYes, wipeD, fCix, fList, fSlL, fPart, fNoPart, fChain, List.length_cons, List.length_nil, List.getElem?_cons_zero, List.getElem?_cons_succ, List.getElem?_nil, List.set_cons_zero, List.set_cons_succ, List.map_cons, List.map_nil, List.cons_append, List.nil_append, List.append_nil, List.replicate, List.take_zero, List.take_nil, List.take_succ_cons, ↓bsome, ↓msome, Option.bind_some, Option.map_some, Option.bind_none, Option.map_none, Nat.sub_self, Int.cast_ofNat_Int, Nat.reduceAdd, Nat.reduceMul, Nat.reduceSub, Nat.reduceLeDiff, Nat.reduceLT, Nat.zero_add, Nat.add_zero, and_self, and_true, true_and, if_true, if_false, ↓reduceIte, ite_true, Bool.true_eq_false, Bool.false_eq_true, beq_self_eq_true, Bool.and_self, Bool.not_true, Bool.not_false, decide_true, decide_false, gLen, gTyIs, gTyNot, tyOf, gNeg, gPlus, DL.gSub, gCmp, gInt, gAbs, gTuple, gMax, gMin, gGcd, LIM, gIx, ix1_0, ix2_0, ix2_1, ix3_0, ix3_1, ix3_2, ix4_0, ix4_1, ix4_2, ix4_3, ix5_0, ix5_1, ix5_2, ix5_3, ix5_4, ix6_0, ix6_1, ix6_2, ix6_3, ix6_4, ix6_5, cut5_04, cut5_14, cut4_04, cut4_03, cut4_14, Sm.mul, Sm.add, Sm.sub, Sm.neg, Sm.div, Sm.lit, sz_0, sz_1, sz_2, sz_3, sz_4, sz_8, Nat.reduceDiv, Nat.reduceSub, Nat.reduceLT, Nat.reduceLeDiff, Int.reduceLT, Int.reduceNeg, Int.mul_pos, gMul_ok, gDiv_ok, gMod_ok, F__law_hue, b__law_hue, e1, hw, e2, hm, e3, e4, e5, e_ll4, sx, sy, sr]
    · generalize x - z = X
      generalize y - z = Y
      generalize 1 + r = R
      grind
theorem lt_dark0 : Lt 40 0 0 0 0 1 := ⟨by decide, by decide, by decide, by decide, (Sz.lit2 (by decide)).by _ (by decide), (Sz.lit2 (by decide)).by _ (by decide), (Sz.lit2 (by decide)).by _ (by decide), (Sz.lit2 (by decide)).by _ (by decide), (Sz.lit2 (by decide)).by _ (by decide)⟩
theorem sz10 {x : Int} (h0 : -500 ≤ x) (h1 : x ≤ 500) : Sz 9 x := Sm.sz (by unfold Sm; omega)
theorem e_shine {k : Nat} {t : List PyData} (h : Tap (k + 10) t) : ∃ i q u v n t', F__law_shine [.cel 0] [t] = some (.dat (T5 i q u v n), [t']) ∧ Tap k t' ∧ Lt 40 i q u v n := by
  obtain ⟨w, t1, e1, h1, w0, w1⟩ := e_from (m := 9) h (by decide) (by decide)
  obtain ⟨z, t2, e2, h2, hz⟩ := e_pickn [1, 3, 3, 20] h1 (by decide) (by decide)
  have z0 : 0 < z ∧ z ≤ 20 := by simp only [List.mem_cons, List.not_mem_nil, or_false] at hz; omega
  obtain ⟨b, t3, e3, h3, b0, b1⟩ := e_from (m := z) h2 (by omega) (by omega)
  simp only [List.map_cons, List.map_nil] at e2
  have sb : Sz 9 (1 + b) := sz10 (by omega) (by omega)
  have hb : 0 < 1 + b := by omega
  have s0 : Sz 2 (0 : Int) := Sz.lit2 (by decide)
  by_cases c0 : w = 0
  · subst c0
    refine ⟨_, _, _, _, _, t3, ?_, h3.le (by omega), lt_dark0⟩
    simp (maxDischargeDepth := 40) only [fZip, zipD, gSum, intsOf, List.foldl_cons, List.foldl_nil, mkF, fRet, fRetL, fRetN, fSkip, fSeq, fNever, fSet, fAsg, fNew, fIfS, fDrop, fPar, fPar3, fSetc, fSetc2, fVar, fLit, fOp, fUn, fTup, fTup.datsOf, fLst, fNilA, fConsA, fStarA, fCelA, fOfL, fTru, fAndT, fOrT, fNotT, fAndV, fOrV, fNotV, fIf, fBi, fCall, fCallL, fCallFr, fPerm, callF, celOf, celsOk, norm, aName, aNil, aCons, aTup, setD, fSl, fIt, fItL, fItT, fFor, forGo, fLc, lcGo, fYes, wipeD, fCix, fList, fSlL, fPart, fNoPart, fChain, List.length_cons, List.length_nil, List.getElem?_cons_zero, List.getElem?_cons_succ, List.getElem?_nil, List.set_cons_zero, List.set_cons_succ, List.map_cons, List.map_nil, List.cons_append, List.nil_append, List.append_nil, List.replicate, List.take_zero, List.take_nil, List.take_succ_cons, ↓bsome, ↓msome, Option.bind_some, Option.map_some, Option.bind_none, Option.map_none, Nat.sub_self, Int.cast_ofNat_Int, Nat.reduceAdd, Nat.reduceMul, Nat.reduceSub, Nat.reduceLeDiff, Nat.reduceLT, Nat.zero_add, Nat.add_zero, and_self, and_true, true_and, if_true, if_false, ↓reduceIte, ite_true, Bool.true_eq_false, Bool.false_eq_true, beq_self_eq_true, Bool.and_self, Bool.not_true, Bool.not_false, decide_true, decide_false, gLen, gTyIs, gTyNot, tyOf, gNeg, gPlus, DL.gSub, gCmp, gInt, gAbs, gTuple, gMax, gMin, gGcd, LIM, gIx, ix1_0, ix2_0, ix2_1, ix3_0, ix3_1, ix3_2, ix4_0, ix4_1, ix4_2, ix4_3, ix5_0, ix5_1, ix5_2, ix5_3, ix5_4, ix6_0, ix6_1, ix6_2, ix6_3, ix6_4, ix6_5, cut5_04, cut5_14, cut4_04, cut4_03, cut4_14, Sm.mul, Sm.add, Sm.sub, Sm.neg, Sm.div, Sm.lit, sz_0, sz_1, sz_2, sz_3, sz_4, sz_8, Nat.reduceDiv, Nat.reduceSub, Nat.reduceLT, Nat.reduceLeDiff, Int.reduceLT, Int.reduceNeg, Int.mul_pos, gMul_ok, gDiv_ok, gMod_ok, F__law_shine, b__law_shine, e1, e2, e3, gEq_int]
  have n0 : (w == 0) = false := beq_eq_false_iff_ne.mpr c0
  by_cases c1 : w = 1
  · subst c1
    obtain ⟨x, t4, e4, h4, x0, x1⟩ := e_from (m := 5) h3 (by decide) (by decide)
    have sx : Sz 9 (1 + x) := sz10 (by omega) (by omega)
    have hx := sq_nn (1 + x)
    refine ⟨_, _, _, _, _, t4, ?_, h4.le (by omega), lt_R5 (m := 40) (i := 1 + x) (q := 0) (u := 0) (v := 0) (n := 1 + b) (by omega) (by omega) (by omega) (by (apply Sz.by; (repeat (first | assumption | exact sz_0 | exact sz_1 | exact sz_2 | exact sz_3 | exact sz_4 | exact sz_8 | exact Sz.of40 (by decide) | apply Sz.mul | apply Sz.add | apply Sz.sub | apply Sz.neg | apply Sz.div)); decide)) (by (apply Sz.by; (repeat (first | assumption | exact sz_0 | exact sz_1 | exact sz_2 | exact sz_3 | exact sz_4 | exact sz_8 | exact Sz.of40 (by decide) | apply Sz.mul | apply Sz.add | apply Sz.sub | apply Sz.neg | apply Sz.div)); decide)) (by (apply Sz.by; (repeat (first | assumption | exact sz_0 | exact sz_1 | exact sz_2 | exact sz_3 | exact sz_4 | exact sz_8 | exact Sz.of40 (by decide) | apply Sz.mul | apply Sz.add | apply Sz.sub | apply Sz.neg | apply Sz.div)); decide)) (by (apply Sz.by; (repeat (first | assumption | exact sz_0 | exact sz_1 | exact sz_2 | exact sz_3 | exact sz_4 | exact sz_8 | exact Sz.of40 (by decide) | apply Sz.mul | apply Sz.add | apply Sz.sub | apply Sz.neg | apply Sz.div)); decide)) (by (apply Sz.by; (repeat (first | assumption | exact sz_0 | exact sz_1 | exact sz_2 | exact sz_3 | exact sz_4 | exact sz_8 | exact Sz.of40 (by decide) | apply Sz.mul | apply Sz.add | apply Sz.sub | apply Sz.neg | apply Sz.div)); decide))⟩
    simp (maxDischargeDepth := 40) only [fZip, zipD, gSum, intsOf, List.foldl_cons, List.foldl_nil, mkF, fRet, fRetL, fRetN, fSkip, fSeq, fNever, fSet, fAsg, fNew, fIfS, fDrop, fPar, fPar3, fSetc, fSetc2, fVar, fLit, fOp, fUn, fTup, fTup.datsOf, fLst, fNilA, fConsA, fStarA, fCelA, fOfL, fTru, fAndT, fOrT, fNotT, fAndV, fOrV, fNotV, fIf, fBi, fCall, fCallL, fCallFr, fPerm, callF, celOf, celsOk, norm, aName, aNil, aCons, aTup, setD, fSl, fIt, fItL, fItT, fFor, forGo, fLc, lcGo, fYes, wipeD, fCix, fList, fSlL, fPart, fNoPart, fChain, List.length_cons, List.length_nil, List.getElem?_cons_zero, List.getElem?_cons_succ, List.getElem?_nil, List.set_cons_zero, List.set_cons_succ, List.map_cons, List.map_nil, List.cons_append, List.nil_append, List.append_nil, List.replicate, List.take_zero, List.take_nil, List.take_succ_cons, ↓bsome, ↓msome, Option.bind_some, Option.map_some, Option.bind_none, Option.map_none, Nat.sub_self, Int.cast_ofNat_Int, Nat.reduceAdd, Nat.reduceMul, Nat.reduceSub, Nat.reduceLeDiff, Nat.reduceLT, Nat.zero_add, Nat.add_zero, and_self, and_true, true_and, if_true, if_false, ↓reduceIte, ite_true, Bool.true_eq_false, Bool.false_eq_true, beq_self_eq_true, Bool.and_self, Bool.not_true, Bool.not_false, decide_true, decide_false, gLen, gTyIs, gTyNot, tyOf, gNeg, gPlus, DL.gSub, gCmp, gInt, gAbs, gTuple, gMax, gMin, gGcd, LIM, gIx, ix1_0, ix2_0, ix2_1, ix3_0, ix3_1, ix3_2, ix4_0, ix4_1, ix4_2, ix4_3, ix5_0, ix5_1, ix5_2, ix5_3, ix5_4, ix6_0, ix6_1, ix6_2, ix6_3, ix6_4, ix6_5, cut5_04, cut5_14, cut4_04, cut4_03, cut4_14, Sm.mul, Sm.add, Sm.sub, Sm.neg, Sm.div, Sm.lit, sz_0, sz_1, sz_2, sz_3, sz_4, sz_8, Nat.reduceDiv, Nat.reduceSub, Nat.reduceLT, Nat.reduceLeDiff, Int.reduceLT, Int.reduceNeg, Int.mul_pos, gMul_ok, gDiv_ok, gMod_ok, F__law_shine, b__law_shine, e1, e2, e3, e4, gEq_int, n0, e_ll5, sx, sb]
  have n1 : (w == 1) = false := beq_eq_false_iff_ne.mpr c1
  by_cases c5 : w < 5
  · obtain ⟨q, u, v, n, t4, e4, h4, hk⟩ := e_hue (k := k + 1) (h3.le (by omega))
    obtain ⟨x, t5, e5, h5, x0, x1⟩ := e_from (m := 4) h4 (by decide) (by decide)
    obtain ⟨kn, ks, ko, sq, su, sv, sn⟩ := hk
    have sx : Sz 9 (1 + x) := sz10 (by omega) (by omega)
    refine ⟨_, _, _, _, _, t5, ?_, h5.le (by omega), lt_R5 (m := 40) (i := (1 + x) * n) (q := (1 + x) * q) (u := (1 + x) * u) (v := (1 + x) * v) (n := 1 + b) (Int.mul_nonneg (by omega) (by omega)) (by omega) ?_ (by (apply Sz.by; (repeat (first | assumption | exact sz_0 | exact sz_1 | exact sz_2 | exact sz_3 | exact sz_4 | exact sz_8 | exact Sz.of40 (by decide) | apply Sz.mul | apply Sz.add | apply Sz.sub | apply Sz.neg | apply Sz.div)); decide)) (by (apply Sz.by; (repeat (first | assumption | exact sz_0 | exact sz_1 | exact sz_2 | exact sz_3 | exact sz_4 | exact sz_8 | exact Sz.of40 (by decide) | apply Sz.mul | apply Sz.add | apply Sz.sub | apply Sz.neg | apply Sz.div)); decide)) (by (apply Sz.by; (repeat (first | assumption | exact sz_0 | exact sz_1 | exact sz_2 | exact sz_3 | exact sz_4 | exact sz_8 | exact Sz.of40 (by decide) | apply Sz.mul | apply Sz.add | apply Sz.sub | apply Sz.neg | apply Sz.div)); decide)) (by (apply Sz.by; (repeat (first | assumption | exact sz_0 | exact sz_1 | exact sz_2 | exact sz_3 | exact sz_4 | exact sz_8 | exact Sz.of40 (by decide) | apply Sz.mul | apply Sz.add | apply Sz.sub | apply Sz.neg | apply Sz.div)); decide)) (by (apply Sz.by; (repeat (first | assumption | exact sz_0 | exact sz_1 | exact sz_2 | exact sz_3 | exact sz_4 | exact sz_8 | exact Sz.of40 (by decide) | apply Sz.mul | apply Sz.add | apply Sz.sub | apply Sz.neg | apply Sz.div)); decide))⟩
    · simp (maxDischargeDepth := 40) only [fZip, zipD, gSum, intsOf, List.foldl_cons, List.foldl_nil, mkF, fRet, fRetL, fRetN, fSkip, fSeq, fNever, fSet, fAsg, fNew, fIfS, fDrop, fPar, fPar3, fSetc, fSetc2, fVar, fLit, fOp, fUn, fTup, fTup.datsOf, fLst, fNilA, fConsA, fStarA, fCelA, fOfL, fTru, fAndT, fOrT, fNotT, fAndV, fOrV, fNotV, fIf, fBi, fCall, fCallL, fCallFr, fPerm, callF, celOf, celsOk, norm, aName, aNil, aCons, aTup, setD, fSl, fIt, fItL, fItT, fFor, forGo, fLc, lcGo, fYes, wipeD, fCix, fList, fSlL, fPart, fNoPart, fChain, List.length_cons, List.length_nil, List.getElem?_cons_zero, List.getElem?_cons_succ, List.getElem?_nil, List.set_cons_zero, List.set_cons_succ, List.map_cons, List.map_nil, List.cons_append, List.nil_append, List.append_nil, List.replicate, List.take_zero, List.take_nil, List.take_succ_cons, ↓bsome, ↓msome, Option.bind_some, Option.map_some, Option.bind_none, Option.map_none, Nat.sub_self, Int.cast_ofNat_Int, Nat.reduceAdd, Nat.reduceMul, Nat.reduceSub, Nat.reduceLeDiff, Nat.reduceLT, Nat.zero_add, Nat.add_zero, and_self, and_true, true_and, if_true, if_false, ↓reduceIte, ite_true, Bool.true_eq_false, Bool.false_eq_true, beq_self_eq_true, Bool.and_self, Bool.not_true, Bool.not_false, decide_true, decide_false, gLen, gTyIs, gTyNot, tyOf, gNeg, gPlus, DL.gSub, gCmp, gInt, gAbs, gTuple, gMax, gMin, gGcd, LIM, gIx, ix1_0, ix2_0, ix2_1, ix3_0, ix3_1, ix3_2, ix4_0, ix4_1, ix4_2, ix4_3, ix5_0, ix5_1, ix5_2, ix5_3, ix5_4, ix6_0, ix6_1, ix6_2, ix6_3, ix6_4, ix6_5, cut5_04, cut5_14, cut4_04, cut4_03, cut4_14, Sm.mul, Sm.add, Sm.sub, Sm.neg, Sm.div, Sm.lit, sz_0, sz_1, sz_2, sz_3, sz_4, sz_8, Nat.reduceDiv, Nat.reduceSub, Nat.reduceLT, Nat.reduceLeDiff, Int.reduceLT, Int.reduceNeg, Int.mul_pos, gMul_ok, gDiv_ok, gMod_ok, F__law_shine, b__law_shine, e1, e2, e3, e4, e5, gEq_int, n0, n1, c5, e_ll5, sx, sb, sq, su, sv, sn]
    · have : (1 + x) * n * ((1 + x) * n) - ((1 + x) * q * ((1 + x) * q) + (1 + x) * u * ((1 + x) * u) + (1 + x) * v * ((1 + x) * v)) = (1 + x) * (1 + x) * (n * n - (q * q + u * u + v * v)) := by
        generalize 1 + x = X
        grind
      rw [this, ks, Int.sub_self, Int.mul_zero]
      exact Int.le_refl 0
  · obtain ⟨x, t4, e4, h4, x0, x1⟩ := e_low (k := k + 5) (h3.le (by omega))
    obtain ⟨y, t5, e5, h5, y0, y1⟩ := e_low (k := k + 3) h4
    obtain ⟨r, t6, e6, h6, r0, r1⟩ := e_low (k := k + 1) h5
    have sx : Sz 9 x := sz10 (by omega) (by omega)
    have sy : Sz 9 y := sz10 (by omega) (by omega)
    have sr : Sz 9 r := sz10 (by omega) (by omega)
    have hx := sq_nn x
    have hy := sq_nn y
    have hr := sq_nn r
    have sT : Sz 20 (x * x + y * y + r * r) := by (apply Sz.by; (repeat (first | assumption | exact sz_0 | exact sz_1 | exact sz_2 | exact sz_3 | exact sz_4 | exact sz_8 | exact Sz.of40 (by decide) | apply Sz.mul | apply Sz.add | apply Sz.sub | apply Sz.neg | apply Sz.div)); decide)
    have hd := e_ldot3 sx.sm sy.sm sr.sm sx.sm sy.sm sr.sm
    generalize hT : x * x + y * y + r * r = T at hd sT
    obtain ⟨l, e7, l0, l1, l2⟩ := e_lroot (T := T) (by omega) sT.sm
    have sl : Sz 30 l := Sm.sz (by
      have hT2 := sT.sm (m := 20)
      have : l < 2 ^ 30 := sq_lt l0 (Int.lt_of_le_of_lt l1 (by unfold Sm at hT2; omega)) (by decide)
      unfold Sm; omega)
    have hll := gMul_ok (sl.sm (m := 4000)) (sl.sm (m := 4000))
    obtain ⟨g, t7, e8, h7, hg⟩ := e_pickn [0, 0, 1, 2, 9] h6 (by decide) (by decide)
    have hg' : 0 ≤ g ∧ g ≤ 9 := by simp only [List.mem_cons, List.not_mem_nil, or_false] at hg; omega
    simp only [List.map_cons, List.map_nil] at e8
    have key : ∀ c : Int, 0 ≤ c → c ≤ 1 → T ≤ (l + c) * (l + c) → Lt 40 ((l + c + g) / mL [l + c + g, x, y, r, 1 + b]) (x / mL [l + c + g, x, y, r, 1 + b]) (y / mL [l + c + g, x, y, r, 1 + b]) (r / mL [l + c + g, x, y, r, 1 + b]) ((1 + b) / mL [l + c + g, x, y, r, 1 + b]) := fun c c0 c1 hc => by
      have sc : Sz 9 c := sz10 (by omega) (by omega)
      have sg : Sz 9 g := sz10 (by omega) (by omega)
      have h1 : (l + c) * (l + c) ≤ (l + c + g) * (l + c + g) := Int.mul_le_mul (by omega) (by omega) (by omega) (by omega)
      exact lt_R5 (by omega) (by omega) (by omega) (by (apply Sz.by; (repeat (first | assumption | exact sz_0 | exact sz_1 | exact sz_2 | exact sz_3 | exact sz_4 | exact sz_8 | exact Sz.of40 (by decide) | apply Sz.mul | apply Sz.add | apply Sz.sub | apply Sz.neg | apply Sz.div)); decide)) (by (apply Sz.by; (repeat (first | assumption | exact sz_0 | exact sz_1 | exact sz_2 | exact sz_3 | exact sz_4 | exact sz_8 | exact Sz.of40 (by decide) | apply Sz.mul | apply Sz.add | apply Sz.sub | apply Sz.neg | apply Sz.div)); decide)) (by (apply Sz.by; (repeat (first | assumption | exact sz_0 | exact sz_1 | exact sz_2 | exact sz_3 | exact sz_4 | exact sz_8 | exact Sz.of40 (by decide) | apply Sz.mul | apply Sz.add | apply Sz.sub | apply Sz.neg | apply Sz.div)); decide)) (by (apply Sz.by; (repeat (first | assumption | exact sz_0 | exact sz_1 | exact sz_2 | exact sz_3 | exact sz_4 | exact sz_8 | exact Sz.of40 (by decide) | apply Sz.mul | apply Sz.add | apply Sz.sub | apply Sz.neg | apply Sz.div)); decide)) (by (apply Sz.by; (repeat (first | assumption | exact sz_0 | exact sz_1 | exact sz_2 | exact sz_3 | exact sz_4 | exact sz_8 | exact Sz.of40 (by decide) | apply Sz.mul | apply Sz.add | apply Sz.sub | apply Sz.neg | apply Sz.div)); decide))
    have sg : Sz 9 g := sz10 (by omega) (by omega)
    by_cases hlT : l * l < T
    · have hlT' : (decide (l * l < T)) = true := decide_eq_true hlT
      refine ⟨_, _, _, _, _, t7, ?_, h7.le (by omega), key 1 (by decide) (by decide) (by omega)⟩
      simp (maxDischargeDepth := 40) only [fZip, zipD, gSum, intsOf, List.foldl_cons, List.foldl_nil, mkF, fRet, fRetL, fRetN, fSkip, fSeq, fNever, fSet, fAsg, fNew, fIfS, fDrop, fPar, fPar3, fSetc, fSetc2, fVar, fLit, fOp, fUn, fTup, fTup.datsOf, fLst, fNilA, fConsA, fStarA, fCelA, fOfL, fTru, fAndT, fOrT, fNotT, fAndV, fOrV, fNotV, fIf, fBi, fCall, fCallL, fCallFr, fPerm, callF, celOf, celsOk, norm, aName, aNil, aCons, aTup, setD, fSl, fIt, fItL, fItT, fFor, forGo, fLc, lcGo, fYes, wipeD, fCix, fList, fSlL, fPart, fNoPart, fChain, List.length_cons, List.length_nil, List.getElem?_cons_zero, List.getElem?_cons_succ, List.getElem?_nil, List.set_cons_zero, List.set_cons_succ, List.map_cons, List.map_nil, List.cons_append, List.nil_append, List.append_nil, List.replicate, List.take_zero, List.take_nil, List.take_succ_cons, ↓bsome, ↓msome, Option.bind_some, Option.map_some, Option.bind_none, Option.map_none, Nat.sub_self, Int.cast_ofNat_Int, Nat.reduceAdd, Nat.reduceMul, Nat.reduceSub, Nat.reduceLeDiff, Nat.reduceLT, Nat.zero_add, Nat.add_zero, and_self, and_true, true_and, if_true, if_false, ↓reduceIte, ite_true, Bool.true_eq_false, Bool.false_eq_true, beq_self_eq_true, Bool.and_self, Bool.not_true, Bool.not_false, decide_true, decide_false, gLen, gTyIs, gTyNot, tyOf, gNeg, gPlus, DL.gSub, gCmp, gInt, gAbs, gTuple, gMax, gMin, gGcd, LIM, gIx, ix1_0, ix2_0, ix2_1, ix3_0, ix3_1, ix3_2, ix4_0, ix4_1, ix4_2, ix4_3, ix5_0, ix5_1, ix5_2, ix5_3, ix5_4, ix6_0, ix6_1, ix6_2, ix6_3, ix6_4, ix6_5, cut5_04, cut5_14, cut4_04, cut4_03, cut4_14, Sm.mul, Sm.add, Sm.sub, Sm.neg, Sm.div, Sm.lit, sz_0, sz_1, sz_2, sz_3, sz_4, sz_8, Nat.reduceDiv, Nat.reduceSub, Nat.reduceLT, Nat.reduceLeDiff, Int.reduceLT, Int.reduceNeg, Int.mul_pos, gMul_ok, gDiv_ok, gMod_ok, F__law_shine, b__law_shine, e1, e2, e3, e4, e5, e6, gEq_int, n0, n1, c5, hd, e7, hll, hlT', e8, e_ll5, sx, sy, sr, sb, sg, sl]
    · have hlT' : (decide (l * l < T)) = false := decide_eq_false hlT
      refine ⟨_, _, _, _, _, t7, ?_, h7.le (by omega), key 0 (by decide) (by decide) (by rw [Int.add_zero]; omega)⟩
      simp (maxDischargeDepth := 40) only [fZip, zipD, gSum, intsOf, List.foldl_cons, List.foldl_nil, mkF, fRet, fRetL, fRetN, fSkip, fSeq, fNever, fSet, fAsg, fNew, fIfS, fDrop, fPar, fPar3, fSetc, fSetc2, fVar, fLit, fOp, fUn, fTup, fTup.datsOf, fLst, fNilA, fConsA, fStarA, fCelA, fOfL, fTru, fAndT, fOrT, fNotT, fAndV, fOrV, fNotV, fIf, fBi, fCall, fCallL, fCallFr, fPerm, callF, celOf, celsOk, norm, aName, aNil, aCons, aTup, setD, fSl, fIt, fItL, fItT, fFor, forGo, fLc, lcGo, fYes, wipeD, fCix, fList, fSlL, fPart, fNoPart, fChain, List.length_cons, List.length_nil, List.getElem?_cons_zero, List.getElem?_cons_succ, List.getElem?_nil, List.set_cons_zero, List.set_cons_succ, List.map_cons, List.map_nil, List.cons_append, List.nil_append, List.append_nil, List.replicate, List.take_zero, List.take_nil, List.take_succ_cons, ↓bsome, ↓msome, Option.bind_some, Option.map_some, Option.bind_none, Option.map_none, Nat.sub_self, Int.cast_ofNat_Int, Nat.reduceAdd, Nat.reduceMul, Nat.reduceSub, Nat.reduceLeDiff, Nat.reduceLT, Nat.zero_add, Nat.add_zero, and_self, and_true, true_and, if_true, if_false, ↓reduceIte, ite_true, Bool.true_eq_false, Bool.false_eq_true, beq_self_eq_true, Bool.and_self, Bool.not_true, Bool.not_false, decide_true, decide_false, gLen, gTyIs, gTyNot, tyOf, gNeg, gPlus, DL.gSub, gCmp, gInt, gAbs, gTuple, gMax, gMin, gGcd, LIM, gIx, ix1_0, ix2_0, ix2_1, ix3_0, ix3_1, ix3_2, ix4_0, ix4_1, ix4_2, ix4_3, ix5_0, ix5_1, ix5_2, ix5_3, ix5_4, ix6_0, ix6_1, ix6_2, ix6_3, ix6_4, ix6_5, cut5_04, cut5_14, cut4_04, cut4_03, cut4_14, Sm.mul, Sm.add, Sm.sub, Sm.neg, Sm.div, Sm.lit, sz_0, sz_1, sz_2, sz_3, sz_4, sz_8, Nat.reduceDiv, Nat.reduceSub, Nat.reduceLT, Nat.reduceLeDiff, Int.reduceLT, Int.reduceNeg, Int.mul_pos, gMul_ok, gDiv_ok, gMod_ok, F__law_shine, b__law_shine, e1, e2, e3, e4, e5, e6, gEq_int, n0, n1, c5, hd, e7, hll, hlT', e8, e_ll5, sx, sy, sr, sb, sg, sl]
theorem e_lit {k : Nat} {t : List PyData} (h : Tap (k + 11) t) : ∃ i q u v n t', F__law_lit [.cel 0] [t] = some (.dat (T5 i q u v n), [t']) ∧ Tap k t' ∧ Lt 40 i q u v n ∧ 0 < i := by
  obtain ⟨i, q, u, v, n, t1, e1, h1, hl⟩ := e_shine (k := k + 1) h
  by_cases hi : 0 < i
  · refine ⟨i, q, u, v, n, t1, ?_, h1.le (by omega), hl, hi⟩
    simp (maxDischargeDepth := 40) only [fZip, zipD, gSum, intsOf, List.foldl_cons, List.foldl_nil, mkF, fRet, fRetL, fRetN, fSkip, fSeq, fNever, fSet, fAsg, fNew, fIfS, fDrop, fPar, fPar3, fSetc, fSetc2, fVar, fLit, fOp, fUn, fTup, fTup.datsOf, fLst, fNilA, fConsA, fStarA, fCelA, fOfL, fTru, fAndT, fOrT, fNotT, fAndV, fOrV, fNotV, fIf, fBi, fCall, fCallL, fCallFr, fPerm, callF, celOf, celsOk, norm, aName, aNil, aCons, aTup, setD, fSl, fIt, fItL, fItT, fFor, forGo, fLc, lcGo, fYes, wipeD, fCix, fList, fSlL, fPart, fNoPart, fChain, List.length_cons, List.length_nil, List.getElem?_cons_zero, List.getElem?_cons_succ, List.getElem?_nil, List.set_cons_zero, List.set_cons_succ, List.map_cons, List.map_nil, List.cons_append, List.nil_append, List.append_nil, List.replicate, List.take_zero, List.take_nil, List.take_succ_cons, ↓bsome, ↓msome, Option.bind_some, Option.map_some, Option.bind_none, Option.map_none, Nat.sub_self, Int.cast_ofNat_Int, Nat.reduceAdd, Nat.reduceMul, Nat.reduceSub, Nat.reduceLeDiff, Nat.reduceLT, Nat.zero_add, Nat.add_zero, and_self, and_true, true_and, if_true, if_false, ↓reduceIte, ite_true, Bool.true_eq_false, Bool.false_eq_true, beq_self_eq_true, Bool.and_self, Bool.not_true, Bool.not_false, decide_true, decide_false, gLen, gTyIs, gTyNot, tyOf, gNeg, gPlus, DL.gSub, gCmp, gInt, gAbs, gTuple, gMax, gMin, gGcd, LIM, gIx, ix1_0, ix2_0, ix2_1, ix3_0, ix3_1, ix3_2, ix4_0, ix4_1, ix4_2, ix4_3, ix5_0, ix5_1, ix5_2, ix5_3, ix5_4, ix6_0, ix6_1, ix6_2, ix6_3, ix6_4, ix6_5, cut5_04, cut5_14, cut4_04, cut4_03, cut4_14, Sm.mul, Sm.add, Sm.sub, Sm.neg, Sm.div, Sm.lit, sz_0, sz_1, sz_2, sz_3, sz_4, sz_8, Nat.reduceDiv, Nat.reduceSub, Nat.reduceLT, Nat.reduceLeDiff, Int.reduceLT, Int.reduceNeg, Int.mul_pos, gMul_ok, gDiv_ok, gMod_ok, F__law_lit, b__law_lit, e1, hi]
  · obtain ⟨x, t2, e2, h2, x0, x1⟩ := e_from (m := 3) h1 (by decide) (by decide)
    refine ⟨1 + x, 1, 0, 0, 1, t2, ?_, h2, ?_, by omega⟩
    · simp (maxDischargeDepth := 40) only [fZip, zipD, gSum, intsOf, List.foldl_cons, List.foldl_nil, mkF, fRet, fRetL, fRetN, fSkip, fSeq, fNever, fSet, fAsg, fNew, fIfS, fDrop, fPar, fPar3, fSetc, fSetc2, fVar, fLit, fOp, fUn, fTup, fTup.datsOf, fLst, fNilA, fConsA, fStarA, fCelA, fOfL, fTru, fAndT, fOrT, fNotT, fAndV, fOrV, fNotV, fIf, fBi, fCall, fCallL, fCallFr, fPerm, callF, celOf, celsOk, norm, aName, aNil, aCons, aTup, setD, fSl, fIt, fItL, fItT, fFor, forGo, fLc, lcGo, fYes, wipeD, fCix, fList, fSlL, fPart, fNoPart, fChain, List.length_cons, List.length_nil, List.getElem?_cons_zero, List.getElem?_cons_succ, List.getElem?_nil, List.set_cons_zero, List.set_cons_succ, List.map_cons, List.map_nil, List.cons_append, List.nil_append, List.append_nil, List.replicate, List.take_zero, List.take_nil, List.take_succ_cons, ↓bsome, ↓msome, Option.bind_some, Option.map_some, Option.bind_none, Option.map_none, Nat.sub_self, Int.cast_ofNat_Int, Nat.reduceAdd, Nat.reduceMul, Nat.reduceSub, Nat.reduceLeDiff, Nat.reduceLT, Nat.zero_add, Nat.add_zero, and_self, and_true, true_and, if_true, if_false, ↓reduceIte, ite_true, Bool.true_eq_false, Bool.false_eq_true, beq_self_eq_true, Bool.and_self, Bool.not_true, Bool.not_false, decide_true, decide_false, gLen, gTyIs, gTyNot, tyOf, gNeg, gPlus, DL.gSub, gCmp, gInt, gAbs, gTuple, gMax, gMin, gGcd, LIM, gIx, ix1_0, ix2_0, ix2_1, ix3_0, ix3_1, ix3_2, ix4_0, ix4_1, ix4_2, ix4_3, ix5_0, ix5_1, ix5_2, ix5_3, ix5_4, ix6_0, ix6_1, ix6_2, ix6_3, ix6_4, ix6_5, cut5_04, cut5_14, cut4_04, cut4_03, cut4_14, Sm.mul, Sm.add, Sm.sub, Sm.neg, Sm.div, Sm.lit, sz_0, sz_1, sz_2, sz_3, sz_4, sz_8, Nat.reduceDiv, Nat.reduceSub, Nat.reduceLT, Nat.reduceLeDiff, Int.reduceLT, Int.reduceNeg, Int.mul_pos, gMul_ok, gDiv_ok, gMod_ok, F__law_lit, b__law_lit, e1, hi, e2]
    · have hc : x = 0 ∨ x = 1 ∨ x = 2 := by omega
      have s1 : Sz 2 (1 : Int) := Sz.lit2 (by decide)
      have s0 : Sz 2 (0 : Int) := Sz.lit2 (by decide)
      have sx : Sz 9 (1 + x) := sz10 (by omega) (by omega)
      rcases hc with rfl | rfl | rfl <;> exact ⟨by decide, by decide, by decide, by decide, sx.by _ (by decide), s1.by _ (by decide), s0.by _ (by decide), s0.by _ (by decide), s1.by _ (by decide)⟩
theorem e_eye {k : Nat} {t : List PyData} (h : Tap (k + 11) t) : ∃ a b c d t', F__law_eye [.cel 0] [t] = some (.dat (T4 a b c d), [t']) ∧ Tap k t' ∧ Lk 40 a b c d := by
  obtain ⟨i, q, u, v, n, t1, e1, h1, hl, hi⟩ := e_lit (k := k) h
  obtain ⟨i0, n0, hc, h1', si, sq, su, sv, sn⟩ := hl
  refine ⟨_, _, _, _, t1, ?_, h1, lk_R4 (m := 40) hi hc si sq su sv⟩
  simp (maxDischargeDepth := 40) only [fZip, zipD, gSum, intsOf, List.foldl_cons, List.foldl_nil, mkF, fRet, fRetL, fRetN, fSkip, fSeq, fNever, fSet, fAsg, fNew, fIfS, fDrop, fPar, fPar3, fSetc, fSetc2, fVar, fLit, fOp, fUn, fTup, fTup.datsOf, fLst, fNilA, fConsA, fStarA, fCelA, fOfL, fTru, fAndT, fOrT, fNotT, fAndV, fOrV, fNotV, fIf, fBi, fCall, fCallL, fCallFr, fPerm, callF, celOf, celsOk, norm, aName, aNil, aCons, aTup, setD, fSl, fIt, fItL, fItT, fFor, forGo, fLc, lcGo, fYes, wipeD, fCix, fList, fSlL, fPart, fNoPart, fChain, List.length_cons, List.length_nil, List.getElem?_cons_zero, List.getElem?_cons_succ, List.getElem?_nil, List.set_cons_zero, List.set_cons_succ, List.map_cons, List.map_nil, List.cons_append, List.nil_append, List.append_nil, List.replicate, List.take_zero, List.take_nil, List.take_succ_cons, ↓bsome, ↓msome, Option.bind_some, Option.map_some, Option.bind_none, Option.map_none, Nat.sub_self, Int.cast_ofNat_Int, Nat.reduceAdd, Nat.reduceMul, Nat.reduceSub, Nat.reduceLeDiff, Nat.reduceLT, Nat.zero_add, Nat.add_zero, and_self, and_true, true_and, if_true, if_false, ↓reduceIte, ite_true, Bool.true_eq_false, Bool.false_eq_true, beq_self_eq_true, Bool.and_self, Bool.not_true, Bool.not_false, decide_true, decide_false, gLen, gTyIs, gTyNot, tyOf, gNeg, gPlus, DL.gSub, gCmp, gInt, gAbs, gTuple, gMax, gMin, gGcd, LIM, gIx, ix1_0, ix2_0, ix2_1, ix3_0, ix3_1, ix3_2, ix4_0, ix4_1, ix4_2, ix4_3, ix5_0, ix5_1, ix5_2, ix5_3, ix5_4, ix6_0, ix6_1, ix6_2, ix6_3, ix6_4, ix6_5, cut5_04, cut5_14, cut4_04, cut4_03, cut4_14, Sm.mul, Sm.add, Sm.sub, Sm.neg, Sm.div, Sm.lit, sz_0, sz_1, sz_2, sz_3, sz_4, sz_8, Nat.reduceDiv, Nat.reduceSub, Nat.reduceLT, Nat.reduceLeDiff, Int.reduceLT, Int.reduceNeg, Int.mul_pos, gMul_ok, gDiv_ok, gMod_ok, F__law_eye, b__law_eye, e1, e_ll4, si, sq, su, sv]
theorem e_level' {k : Nat} {t : List PyData} (h : Tap (k + 6) t) : ∃ p q t', F__law_level [.cel 0] [t] = some (.dat (T2 p q), [t']) ∧ Tap k t' ∧ Fr 40 p q ∧ 0 ≤ p := by
  obtain ⟨w, t1, e1, h1, w0, w1⟩ := e_from (m := 6) h (by decide) (by decide)
  obtain ⟨z, t2, e2, h2, hz⟩ := e_pickn [5, 12, 200] h1 (by decide) (by decide)
  have z0 : 0 < z ∧ z ≤ 200 := by simp only [List.mem_cons, List.not_mem_nil, or_false] at hz; omega
  obtain ⟨p, t3, e3, h3, p0, p1⟩ := e_from (m := z) h2 (by omega) (by omega)
  obtain ⟨y, t4, e4, h4, hy⟩ := e_pickn [1, 4, 20] h3 (by decide) (by decide)
  have y0 : 0 < y ∧ y ≤ 20 := by simp only [List.mem_cons, List.not_mem_nil, or_false] at hy; omega
  obtain ⟨b, t5, e5, h5, b0, b1⟩ := e_from (m := y) h4 (by omega) (by omega)
  simp only [List.map_cons, List.map_nil] at e2 e4
  have sp : Sz 9 p := sz10 (by omega) (by omega)
  have sb : Sz 9 (1 + b) := sz10 (by omega) (by omega)
  have hb : 0 < 1 + b := by omega
  have hbb := Int.mul_pos hb hb
  have hpp := sq_nn p
  have fin : ∀ P Q : Int, 0 ≤ P → 0 < Q → Sz 40 P → Sz 40 Q → Fr 40 (P / rg P Q) (Q / rg P Q) ∧ 0 ≤ P / rg P Q := fun P Q h0 hq sP sQ => ⟨rt_fr hq sP sQ, Int.ediv_nonneg h0 (Int.le_of_lt (rg_pos hq))⟩
  by_cases c2 : w < 2
  · obtain ⟨f1, f2⟩ := fin (p * p) ((1 + b) * (1 + b)) hpp hbb (by (apply Sz.by; (repeat (first | assumption | exact sz_0 | exact sz_1 | exact sz_2 | exact sz_3 | exact sz_4 | exact sz_8 | exact Sz.of40 (by decide) | apply Sz.mul | apply Sz.add | apply Sz.sub | apply Sz.neg | apply Sz.div)); decide)) (by (apply Sz.by; (repeat (first | assumption | exact sz_0 | exact sz_1 | exact sz_2 | exact sz_3 | exact sz_4 | exact sz_8 | exact Sz.of40 (by decide) | apply Sz.mul | apply Sz.add | apply Sz.sub | apply Sz.neg | apply Sz.div)); decide))
    refine ⟨_, _, t5, ?_, h5.le (by omega), f1, f2⟩
    simp (maxDischargeDepth := 40) only [fZip, zipD, gSum, intsOf, List.foldl_cons, List.foldl_nil, mkF, fRet, fRetL, fRetN, fSkip, fSeq, fNever, fSet, fAsg, fNew, fIfS, fDrop, fPar, fPar3, fSetc, fSetc2, fVar, fLit, fOp, fUn, fTup, fTup.datsOf, fLst, fNilA, fConsA, fStarA, fCelA, fOfL, fTru, fAndT, fOrT, fNotT, fAndV, fOrV, fNotV, fIf, fBi, fCall, fCallL, fCallFr, fPerm, callF, celOf, celsOk, norm, aName, aNil, aCons, aTup, setD, fSl, fIt, fItL, fItT, fFor, forGo, fLc, lcGo, fYes, wipeD, fCix, fList, fSlL, fPart, fNoPart, fChain, List.length_cons, List.length_nil, List.getElem?_cons_zero, List.getElem?_cons_succ, List.getElem?_nil, List.set_cons_zero, List.set_cons_succ, List.map_cons, List.map_nil, List.cons_append, List.nil_append, List.append_nil, List.replicate, List.take_zero, List.take_nil, List.take_succ_cons, ↓bsome, ↓msome, Option.bind_some, Option.map_some, Option.bind_none, Option.map_none, Nat.sub_self, Int.cast_ofNat_Int, Nat.reduceAdd, Nat.reduceMul, Nat.reduceSub, Nat.reduceLeDiff, Nat.reduceLT, Nat.zero_add, Nat.add_zero, and_self, and_true, true_and, if_true, if_false, ↓reduceIte, ite_true, Bool.true_eq_false, Bool.false_eq_true, beq_self_eq_true, Bool.and_self, Bool.not_true, Bool.not_false, decide_true, decide_false, gLen, gTyIs, gTyNot, tyOf, gNeg, gPlus, DL.gSub, gCmp, gInt, gAbs, gTuple, gMax, gMin, gGcd, LIM, gIx, ix1_0, ix2_0, ix2_1, ix3_0, ix3_1, ix3_2, ix4_0, ix4_1, ix4_2, ix4_3, ix5_0, ix5_1, ix5_2, ix5_3, ix5_4, ix6_0, ix6_1, ix6_2, ix6_3, ix6_4, ix6_5, cut5_04, cut5_14, cut4_04, cut4_03, cut4_14, Sm.mul, Sm.add, Sm.sub, Sm.neg, Sm.div, Sm.lit, sz_0, sz_1, sz_2, sz_3, sz_4, sz_8, Nat.reduceDiv, Nat.reduceSub, Nat.reduceLT, Nat.reduceLeDiff, Int.reduceLT, Int.reduceNeg, Int.mul_pos, gMul_ok, gDiv_ok, gMod_ok, F__law_level, b__law_level, e1, e2, e3, e4, e5, c2, e_lratio, hbb, sp, sb]
  by_cases c3 : w = 2
  · subst c3
    obtain ⟨x, t6, e6, h6, x0, x1⟩ := e_from (m := 3) h5 (by decide) (by decide)
    have sx : Sz 9 x := sz10 (by omega) (by omega)
    obtain ⟨f1, f2⟩ := fin (p * p + x) ((1 + b) * (1 + b)) (by omega) hbb (by (apply Sz.by; (repeat (first | assumption | exact sz_0 | exact sz_1 | exact sz_2 | exact sz_3 | exact sz_4 | exact sz_8 | exact Sz.of40 (by decide) | apply Sz.mul | apply Sz.add | apply Sz.sub | apply Sz.neg | apply Sz.div)); decide)) (by (apply Sz.by; (repeat (first | assumption | exact sz_0 | exact sz_1 | exact sz_2 | exact sz_3 | exact sz_4 | exact sz_8 | exact Sz.of40 (by decide) | apply Sz.mul | apply Sz.add | apply Sz.sub | apply Sz.neg | apply Sz.div)); decide))
    refine ⟨_, _, t6, ?_, h6, f1, f2⟩
    simp (maxDischargeDepth := 40) only [fZip, zipD, gSum, intsOf, List.foldl_cons, List.foldl_nil, mkF, fRet, fRetL, fRetN, fSkip, fSeq, fNever, fSet, fAsg, fNew, fIfS, fDrop, fPar, fPar3, fSetc, fSetc2, fVar, fLit, fOp, fUn, fTup, fTup.datsOf, fLst, fNilA, fConsA, fStarA, fCelA, fOfL, fTru, fAndT, fOrT, fNotT, fAndV, fOrV, fNotV, fIf, fBi, fCall, fCallL, fCallFr, fPerm, callF, celOf, celsOk, norm, aName, aNil, aCons, aTup, setD, fSl, fIt, fItL, fItT, fFor, forGo, fLc, lcGo, fYes, wipeD, fCix, fList, fSlL, fPart, fNoPart, fChain, List.length_cons, List.length_nil, List.getElem?_cons_zero, List.getElem?_cons_succ, List.getElem?_nil, List.set_cons_zero, List.set_cons_succ, List.map_cons, List.map_nil, List.cons_append, List.nil_append, List.append_nil, List.replicate, List.take_zero, List.take_nil, List.take_succ_cons, ↓bsome, ↓msome, Option.bind_some, Option.map_some, Option.bind_none, Option.map_none, Nat.sub_self, Int.cast_ofNat_Int, Nat.reduceAdd, Nat.reduceMul, Nat.reduceSub, Nat.reduceLeDiff, Nat.reduceLT, Nat.zero_add, Nat.add_zero, and_self, and_true, true_and, if_true, if_false, ↓reduceIte, ite_true, Bool.true_eq_false, Bool.false_eq_true, beq_self_eq_true, Bool.and_self, Bool.not_true, Bool.not_false, decide_true, decide_false, gLen, gTyIs, gTyNot, tyOf, gNeg, gPlus, DL.gSub, gCmp, gInt, gAbs, gTuple, gMax, gMin, gGcd, LIM, gIx, ix1_0, ix2_0, ix2_1, ix3_0, ix3_1, ix3_2, ix4_0, ix4_1, ix4_2, ix4_3, ix5_0, ix5_1, ix5_2, ix5_3, ix5_4, ix6_0, ix6_1, ix6_2, ix6_3, ix6_4, ix6_5, cut5_04, cut5_14, cut4_04, cut4_03, cut4_14, Sm.mul, Sm.add, Sm.sub, Sm.neg, Sm.div, Sm.lit, sz_0, sz_1, sz_2, sz_3, sz_4, sz_8, Nat.reduceDiv, Nat.reduceSub, Nat.reduceLT, Nat.reduceLeDiff, Int.reduceLT, Int.reduceNeg, Int.mul_pos, gMul_ok, gDiv_ok, gMod_ok, F__law_level, b__law_level, e1, e2, e3, e4, e5, e6, c2, gEq_int, e_lratio, hbb, sp, sb, sx]
  · have c3' : (w == 2) = false := beq_eq_false_iff_ne.mpr c3
    obtain ⟨f1, f2⟩ := fin p (1 + b) p0 hb (by (apply Sz.by; (repeat (first | assumption | exact sz_0 | exact sz_1 | exact sz_2 | exact sz_3 | exact sz_4 | exact sz_8 | exact Sz.of40 (by decide) | apply Sz.mul | apply Sz.add | apply Sz.sub | apply Sz.neg | apply Sz.div)); decide)) (by (apply Sz.by; (repeat (first | assumption | exact sz_0 | exact sz_1 | exact sz_2 | exact sz_3 | exact sz_4 | exact sz_8 | exact Sz.of40 (by decide) | apply Sz.mul | apply Sz.add | apply Sz.sub | apply Sz.neg | apply Sz.div)); decide))
    refine ⟨_, _, t5, ?_, h5.le (by omega), f1, f2⟩
    simp (maxDischargeDepth := 40) only [fZip, zipD, gSum, intsOf, List.foldl_cons, List.foldl_nil, mkF, fRet, fRetL, fRetN, fSkip, fSeq, fNever, fSet, fAsg, fNew, fIfS, fDrop, fPar, fPar3, fSetc, fSetc2, fVar, fLit, fOp, fUn, fTup, fTup.datsOf, fLst, fNilA, fConsA, fStarA, fCelA, fOfL, fTru, fAndT, fOrT, fNotT, fAndV, fOrV, fNotV, fIf, fBi, fCall, fCallL, fCallFr, fPerm, callF, celOf, celsOk, norm, aName, aNil, aCons, aTup, setD, fSl, fIt, fItL, fItT, fFor, forGo, fLc, lcGo, fYes, wipeD, fCix, fList, fSlL, fPart, fNoPart, fChain, List.length_cons, List.length_nil, List.getElem?_cons_zero, List.getElem?_cons_succ, List.getElem?_nil, List.set_cons_zero, List.set_cons_succ, List.map_cons, List.map_nil, List.cons_append, List.nil_append, List.append_nil, List.replicate, List.take_zero, List.take_nil, List.take_succ_cons, ↓bsome, ↓msome, Option.bind_some, Option.map_some, Option.bind_none, Option.map_none, Nat.sub_self, Int.cast_ofNat_Int, Nat.reduceAdd, Nat.reduceMul, Nat.reduceSub, Nat.reduceLeDiff, Nat.reduceLT, Nat.zero_add, Nat.add_zero, and_self, and_true, true_and, if_true, if_false, ↓reduceIte, ite_true, Bool.true_eq_false, Bool.false_eq_true, beq_self_eq_true, Bool.and_self, Bool.not_true, Bool.not_false, decide_true, decide_false, gLen, gTyIs, gTyNot, tyOf, gNeg, gPlus, DL.gSub, gCmp, gInt, gAbs, gTuple, gMax, gMin, gGcd, LIM, gIx, ix1_0, ix2_0, ix2_1, ix3_0, ix3_1, ix3_2, ix4_0, ix4_1, ix4_2, ix4_3, ix5_0, ix5_1, ix5_2, ix5_3, ix5_4, ix6_0, ix6_1, ix6_2, ix6_3, ix6_4, ix6_5, cut5_04, cut5_14, cut4_04, cut4_03, cut4_14, Sm.mul, Sm.add, Sm.sub, Sm.neg, Sm.div, Sm.lit, sz_0, sz_1, sz_2, sz_3, sz_4, sz_8, Nat.reduceDiv, Nat.reduceSub, Nat.reduceLT, Nat.reduceLeDiff, Int.reduceLT, Int.reduceNeg, Int.mul_pos, gMul_ok, gDiv_ok, gMod_ok, F__law_level, b__law_level, e1, e2, e3, e4, e5, c2, gEq_int, c3', e_lratio, hb, sp, sb]
end PL


set_option Elab.async false
set_option linter.all false
set_option maxRecDepth 100000
set_option maxHeartbeats 400000
set_option exponentiation.threshold 20000
namespace PL
open PySem PySem.Spec L2 DL
theorem lt_kin {m : Nat} {q u v n x b : Int} (h : Kd m q u v n) (hx : 0 < x) (hb : 0 < b) (sx : Sz 9 x) (sb : Sz 9 b) : 0 ≤ x * n ∧ 0 ≤ x * n * (x * n) - (x * q * (x * q) + x * u * (x * u) + x * v * (x * v)) := by
  refine ⟨Int.mul_nonneg (by omega) (Int.le_of_lt h.n0), ?_⟩
  have : x * n * (x * n) - (x * q * (x * q) + x * u * (x * u) + x * v * (x * v)) = x * x * (n * n - (q * q + u * u + v * v)) := by grind
  rw [this, h.sph, Int.sub_self, Int.mul_zero]
  exact Int.le_refl 0
theorem Kd.neg {m : Nat} {q u v n : Int} (h : Kd m q u v n) : Kd m (0 - q) (0 - u) (0 - v) n := by
  obtain ⟨n0, hs, ho, sq, su, sv, sn⟩ := h
  have e : ∀ x : Int, (0 - x).natAbs = x.natAbs := fun x => by omega
  refine ⟨n0, ?_, ?_, fun k => ?_, fun k => ?_, fun k => ?_, sn⟩
  · rw [← hs]; grind
  · rw [← ho]; simp only [gL, e]
  · have := sq k; unfold Sm at *; rw [e]; exact this
  · have := su k; unfold Sm at *; rw [e]; exact this
  · have := sv k; unfold Sm at *; rw [e]; exact this
/-- a light, often of the kind of the one that is told or of the opposite one -/
theorem e_kin {k : Nat} {t : List PyData} {i q u v n : Int} (h : Tap (k + 11) t) (hl : Lt 40 i q u v n) : ∃ i' q' u' v' n' t', F__law_kin [.cel 0, .dat (T5 i q u v n)] [t] = some (.dat (T5 i' q' u' v' n'), [t']) ∧ Tap k t' ∧ Lt 60 i' q' u' v' n' := by
  obtain ⟨w, t1, e1, h1, w0, w1⟩ := e_from (m := 4) h (by decide) (by decide)
  by_cases hk : i ≠ 0 ∧ i * i - (q * q + u * u + v * v) = 0
  · have ek := e_kindof (hl.up (by decide : 40 ≤ 1000)) hk.1 hk.2
    have hi := hl.i0
    have hK := kd_R4 (m := 40) (q := q) (u := u) (v := v) (n := i) (by omega) (by omega) hl.sq hl.su hl.sv hl.si
    unfold R4 at ek
    generalize q / mL [q, u, v, i] = a, u / mL [q, u, v, i] = b, v / mL [q, u, v, i] = c, i / mL [q, u, v, i] = d at ek hK
    by_cases hw : 1 < w
    · obtain ⟨i', q', u', v', n', t2, e2, h2, hl2⟩ := e_shine (k := k) h1
      refine ⟨i', q', u', v', n', t2, ?_, h2, hl2.up (by decide)⟩
      simp (maxDischargeDepth := 40) only [fZip, zipD, gSum, intsOf, List.foldl_cons, List.foldl_nil, mkF, fRet, fRetL, fRetN, fSkip, fSeq, fNever, fSet, fAsg, fNew, fIfS, fDrop, fPar, fPar3, fSetc, fSetc2, fVar, fLit, fOp, fUn, fTup, fTup.datsOf, fLst, fNilA, fConsA, fStarA, fCelA, fOfL, fTru, fAndT, fOrT, fNotT, fAndV, fOrV, fNotV, fIf, fBi, fCall, fCallL, fCallFr, fPerm, callF, celOf, celsOk, norm, aName, aNil, aCons, aTup, setD, fSl, fIt, fItL, fItT, fFor, forGo, fLc, lcGo, fYes, wipeD, fCix, fList, fSlL, fPart, fNoPart, fChain, List.length_cons, List.length_nil, List.getElem?_cons_zero, List.getElem?_cons_succ, List.getElem?_nil, List.set_cons_zero, List.set_cons_succ, List.map_cons, List.map_nil, List.cons_append, List.nil_append, List.append_nil, List.replicate, List.take_zero, List.take_nil, List.take_succ_cons, ↓bsome, ↓msome, Option.bind_some, Option.map_some, Option.bind_none, Option.map_none, Nat.sub_self, Int.cast_ofNat_Int, Nat.reduceAdd, Nat.reduceMul, Nat.reduceSub, Nat.reduceLeDiff, Nat.reduceLT, Nat.zero_add, Nat.add_zero, and_self, and_true, true_and, if_true, if_false, ↓reduceIte, ite_true, Bool.true_eq_false, Bool.false_eq_true, beq_self_eq_true, Bool.and_self, Bool.not_true, Bool.not_false, decide_true, decide_false, gLen, gTyIs, gTyNot, tyOf, gNeg, gPlus, DL.gSub, gCmp, gInt, gAbs, gTuple, gMax, gMin, gGcd, LIM, gIx, ix1_0, ix2_0, ix2_1, ix3_0, ix3_1, ix3_2, ix4_0, ix4_1, ix4_2, ix4_3, ix5_0, ix5_1, ix5_2, ix5_3, ix5_4, ix6_0, ix6_1, ix6_2, ix6_3, ix6_4, ix6_5, cut5_04, cut5_14, cut4_04, cut4_03, cut4_14, Sm.mul, Sm.add, Sm.sub, Sm.neg, Sm.div, Sm.lit, sz_0, sz_1, sz_2, sz_3, sz_4, sz_8, Nat.reduceDiv, Nat.reduceSub, Nat.reduceLT, Nat.reduceLeDiff, Int.reduceLT, Int.reduceNeg, Int.mul_pos, gMul_ok, gDiv_ok, gMod_ok, F__law_kin, b__law_kin, ek, e1, hw, e2, gIsN, isNone]
    · obtain ⟨x, t2, e2, h2, x0, x1⟩ := e_from (m := 4) (h1.le (by omega : k + 2 ≤ k + 10)) (by decide) (by decide)
      obtain ⟨y, t3, e3, h3, y0, y1⟩ := e_from (m := 6) h2 (by decide) (by decide)
      have sx : Sz 9 (1 + x) := sz10 (by omega) (by omega)
      have sy : Sz 9 (1 + y) := sz10 (by omega) (by omega)
      have hx : 0 < 1 + x := by omega
      have hy : 0 < 1 + y := by omega
      have hN := hK.neg
      by_cases hz : w = 0
      · subst hz
        obtain ⟨k0, k1⟩ := lt_kin hK hx hy sx sy
        obtain ⟨n0, hs, ho, sa, sb, sc, sd⟩ := hK
        refine ⟨_, _, _, _, _, t3, ?_, h3, lt_R5 (m := 60) k0 hy k1 (by (apply Sz.by; (repeat (first | assumption | exact sz_0 | exact sz_1 | exact sz_2 | exact sz_3 | exact sz_4 | exact sz_8 | exact Sz.of40 (by decide) | apply Sz.mul | apply Sz.add | apply Sz.sub | apply Sz.neg | apply Sz.div)); decide)) (by (apply Sz.by; (repeat (first | assumption | exact sz_0 | exact sz_1 | exact sz_2 | exact sz_3 | exact sz_4 | exact sz_8 | exact Sz.of40 (by decide) | apply Sz.mul | apply Sz.add | apply Sz.sub | apply Sz.neg | apply Sz.div)); decide)) (by (apply Sz.by; (repeat (first | assumption | exact sz_0 | exact sz_1 | exact sz_2 | exact sz_3 | exact sz_4 | exact sz_8 | exact Sz.of40 (by decide) | apply Sz.mul | apply Sz.add | apply Sz.sub | apply Sz.neg | apply Sz.div)); decide)) (by (apply Sz.by; (repeat (first | assumption | exact sz_0 | exact sz_1 | exact sz_2 | exact sz_3 | exact sz_4 | exact sz_8 | exact Sz.of40 (by decide) | apply Sz.mul | apply Sz.add | apply Sz.sub | apply Sz.neg | apply Sz.div)); decide)) (by (apply Sz.by; (repeat (first | assumption | exact sz_0 | exact sz_1 | exact sz_2 | exact sz_3 | exact sz_4 | exact sz_8 | exact Sz.of40 (by decide) | apply Sz.mul | apply Sz.add | apply Sz.sub | apply Sz.neg | apply Sz.div)); decide))⟩
        simp (maxDischargeDepth := 40) only [fZip, zipD, gSum, intsOf, List.foldl_cons, List.foldl_nil, mkF, fRet, fRetL, fRetN, fSkip, fSeq, fNever, fSet, fAsg, fNew, fIfS, fDrop, fPar, fPar3, fSetc, fSetc2, fVar, fLit, fOp, fUn, fTup, fTup.datsOf, fLst, fNilA, fConsA, fStarA, fCelA, fOfL, fTru, fAndT, fOrT, fNotT, fAndV, fOrV, fNotV, fIf, fBi, fCall, fCallL, fCallFr, fPerm, callF, celOf, celsOk, norm, aName, aNil, aCons, aTup, setD, fSl, fIt, fItL, fItT, fFor, forGo, fLc, lcGo, fYes, wipeD, fCix, fList, fSlL, fPart, fNoPart, fChain, List.length_cons, List.length_nil, List.getElem?_cons_zero, List.getElem?_cons_succ, List.getElem?_nil, List.set_cons_zero, List.set_cons_succ, List.map_cons, List.map_nil, List.cons_append, List.nil_append, List.append_nil, List.replicate, List.take_zero, List.take_nil, List.take_succ_cons, ↓bsome, ↓msome, Option.bind_some, Option.map_some, Option.bind_none, Option.map_none, Nat.sub_self, Int.cast_ofNat_Int, Nat.reduceAdd, Nat.reduceMul, Nat.reduceSub, Nat.reduceLeDiff, Nat.reduceLT, Nat.zero_add, Nat.add_zero, and_self, and_true, true_and, if_true, if_false, ↓reduceIte, ite_true, Bool.true_eq_false, Bool.false_eq_true, beq_self_eq_true, Bool.and_self, Bool.not_true, Bool.not_false, decide_true, decide_false, gLen, gTyIs, gTyNot, tyOf, gNeg, gPlus, DL.gSub, gCmp, gInt, gAbs, gTuple, gMax, gMin, gGcd, LIM, gIx, ix1_0, ix2_0, ix2_1, ix3_0, ix3_1, ix3_2, ix4_0, ix4_1, ix4_2, ix4_3, ix5_0, ix5_1, ix5_2, ix5_3, ix5_4, ix6_0, ix6_1, ix6_2, ix6_3, ix6_4, ix6_5, cut5_04, cut5_14, cut4_04, cut4_03, cut4_14, Sm.mul, Sm.add, Sm.sub, Sm.neg, Sm.div, Sm.lit, sz_0, sz_1, sz_2, sz_3, sz_4, sz_8, Nat.reduceDiv, Nat.reduceSub, Nat.reduceLT, Nat.reduceLeDiff, Int.reduceLT, Int.reduceNeg, Int.mul_pos, gMul_ok, gDiv_ok, gMod_ok, F__law_kin, b__law_kin, ek, e1, hw, e2, e3, gIsN, isNone, gEq_int, e_ll5, sx, sy, sa, sb, sc, sd]
      · have hz' : (w == 0) = false := beq_eq_false_iff_ne.mpr hz
        obtain ⟨k0, k1⟩ := lt_kin hN hx hy sx sy
        obtain ⟨n0, hs, ho, sa, sb, sc, sd⟩ := hN
        refine ⟨_, _, _, _, _, t3, ?_, h3, lt_R5 (m := 60) k0 hy k1 (by (apply Sz.by; (repeat (first | assumption | exact sz_0 | exact sz_1 | exact sz_2 | exact sz_3 | exact sz_4 | exact sz_8 | exact Sz.of40 (by decide) | apply Sz.mul | apply Sz.add | apply Sz.sub | apply Sz.neg | apply Sz.div)); decide)) (by (apply Sz.by; (repeat (first | assumption | exact sz_0 | exact sz_1 | exact sz_2 | exact sz_3 | exact sz_4 | exact sz_8 | exact Sz.of40 (by decide) | apply Sz.mul | apply Sz.add | apply Sz.sub | apply Sz.neg | apply Sz.div)); decide)) (by (apply Sz.by; (repeat (first | assumption | exact sz_0 | exact sz_1 | exact sz_2 | exact sz_3 | exact sz_4 | exact sz_8 | exact Sz.of40 (by decide) | apply Sz.mul | apply Sz.add | apply Sz.sub | apply Sz.neg | apply Sz.div)); decide)) (by (apply Sz.by; (repeat (first | assumption | exact sz_0 | exact sz_1 | exact sz_2 | exact sz_3 | exact sz_4 | exact sz_8 | exact Sz.of40 (by decide) | apply Sz.mul | apply Sz.add | apply Sz.sub | apply Sz.neg | apply Sz.div)); decide)) (by (apply Sz.by; (repeat (first | assumption | exact sz_0 | exact sz_1 | exact sz_2 | exact sz_3 | exact sz_4 | exact sz_8 | exact Sz.of40 (by decide) | apply Sz.mul | apply Sz.add | apply Sz.sub | apply Sz.neg | apply Sz.div)); decide))⟩
        simp (maxDischargeDepth := 40) only [fZip, zipD, gSum, intsOf, List.foldl_cons, List.foldl_nil, mkF, fRet, fRetL, fRetN, fSkip, fSeq, fNever, fSet, fAsg, fNew, fIfS, fDrop, fPar, fPar3, fSetc, fSetc2, fVar, fLit, fOp, fUn, fTup, fTup.datsOf, fLst, fNilA, fConsA, fStarA, fCelA, fOfL, fTru, fAndT, fOrT, fNotT, fAndV, fOrV, fNotV, fIf, fBi, fCall, fCallL, fCallFr, fPerm, callF, celOf, celsOk, norm, aName, aNil, aCons, aTup, setD, fSl, fIt, fItL, fItT, fFor, forGo, fLc, lcGo, fYes, wipeD, fCix, fList, fSlL, fPart, fNoPart, fChain, List.length_cons, List.length_nil, List.getElem?_cons_zero, List.getElem?_cons_succ, List.getElem?_nil, List.set_cons_zero, List.set_cons_succ, List.map_cons, List.map_nil, List.cons_append, List.nil_append, List.append_nil, List.replicate, List.take_zero, List.take_nil, List.take_succ_cons, ↓bsome, ↓msome, Option.bind_some, Option.map_some, Option.bind_none, Option.map_none, Nat.sub_self, Int.cast_ofNat_Int, Nat.reduceAdd, Nat.reduceMul, Nat.reduceSub, Nat.reduceLeDiff, Nat.reduceLT, Nat.zero_add, Nat.add_zero, and_self, and_true, true_and, if_true, if_false, ↓reduceIte, ite_true, Bool.true_eq_false, Bool.false_eq_true, beq_self_eq_true, Bool.and_self, Bool.not_true, Bool.not_false, decide_true, decide_false, gLen, gTyIs, gTyNot, tyOf, gNeg, gPlus, DL.gSub, gCmp, gInt, gAbs, gTuple, gMax, gMin, gGcd, LIM, gIx, ix1_0, ix2_0, ix2_1, ix3_0, ix3_1, ix3_2, ix4_0, ix4_1, ix4_2, ix4_3, ix5_0, ix5_1, ix5_2, ix5_3, ix5_4, ix6_0, ix6_1, ix6_2, ix6_3, ix6_4, ix6_5, cut5_04, cut5_14, cut4_04, cut4_03, cut4_14, Sm.mul, Sm.add, Sm.sub, Sm.neg, Sm.div, Sm.lit, sz_0, sz_1, sz_2, sz_3, sz_4, sz_8, Nat.reduceDiv, Nat.reduceSub, Nat.reduceLT, Nat.reduceLeDiff, Int.reduceLT, Int.reduceNeg, Int.mul_pos, gMul_ok, gDiv_ok, gMod_ok, F__law_kin, b__law_kin, ek, e1, hw, e2, e3, gIsN, isNone, gEq_int, hz', e_ll5, sx, sy, sa, sb, sc, sd]
  · have hc := hl.cone
    have ek := e_kindof_none (hl.up (by decide : 40 ≤ 1000)) (by
      by_cases hi : i = 0
      · exact .inl hi
      · exact .inr (by
          have : i * i - (q * q + u * u + v * v) ≠ 0 := fun z => hk ⟨hi, z⟩
          omega))
    obtain ⟨i', q', u', v', n', t2, e2, h2, hl2⟩ := e_shine (k := k) h1
    refine ⟨i', q', u', v', n', t2, ?_, h2, hl2.up (by decide)⟩
    simp (maxDischargeDepth := 40) only [fZip, zipD, gSum, intsOf, List.foldl_cons, List.foldl_nil, mkF, fRet, fRetL, fRetN, fSkip, fSeq, fNever, fSet, fAsg, fNew, fIfS, fDrop, fPar, fPar3, fSetc, fSetc2, fVar, fLit, fOp, fUn, fTup, fTup.datsOf, fLst, fNilA, fConsA, fStarA, fCelA, fOfL, fTru, fAndT, fOrT, fNotT, fAndV, fOrV, fNotV, fIf, fBi, fCall, fCallL, fCallFr, fPerm, callF, celOf, celsOk, norm, aName, aNil, aCons, aTup, setD, fSl, fIt, fItL, fItT, fFor, forGo, fLc, lcGo, fYes, wipeD, fCix, fList, fSlL, fPart, fNoPart, fChain, List.length_cons, List.length_nil, List.getElem?_cons_zero, List.getElem?_cons_succ, List.getElem?_nil, List.set_cons_zero, List.set_cons_succ, List.map_cons, List.map_nil, List.cons_append, List.nil_append, List.append_nil, List.replicate, List.take_zero, List.take_nil, List.take_succ_cons, ↓bsome, ↓msome, Option.bind_some, Option.map_some, Option.bind_none, Option.map_none, Nat.sub_self, Int.cast_ofNat_Int, Nat.reduceAdd, Nat.reduceMul, Nat.reduceSub, Nat.reduceLeDiff, Nat.reduceLT, Nat.zero_add, Nat.add_zero, and_self, and_true, true_and, if_true, if_false, ↓reduceIte, ite_true, Bool.true_eq_false, Bool.false_eq_true, beq_self_eq_true, Bool.and_self, Bool.not_true, Bool.not_false, decide_true, decide_false, gLen, gTyIs, gTyNot, tyOf, gNeg, gPlus, DL.gSub, gCmp, gInt, gAbs, gTuple, gMax, gMin, gGcd, LIM, gIx, ix1_0, ix2_0, ix2_1, ix3_0, ix3_1, ix3_2, ix4_0, ix4_1, ix4_2, ix4_3, ix5_0, ix5_1, ix5_2, ix5_3, ix5_4, ix6_0, ix6_1, ix6_2, ix6_3, ix6_4, ix6_5, cut5_04, cut5_14, cut4_04, cut4_03, cut4_14, Sm.mul, Sm.add, Sm.sub, Sm.neg, Sm.div, Sm.lit, sz_0, sz_1, sz_2, sz_3, sz_4, sz_8, Nat.reduceDiv, Nat.reduceSub, Nat.reduceLT, Nat.reduceLeDiff, Int.reduceLT, Int.reduceNeg, Int.mul_pos, gMul_ok, gDiv_ok, gMod_ok, F__law_kin, b__law_kin, ek, e1, e2, gIsN, isNone]
/-! what the law reckons itself -/
section
variable {m : Nat} {i q u v n i' q' u' v' n' p r p' r' : Int}
theorem e_lsum (h : Lt 300 i q u v n) (g : Lt 300 i' q' u' v' n') : F__law_sum [.dat (T5 i q u v n), .dat (T5 i' q' u' v' n')] [] = some (.dat (R5 (i * n' + i' * n) (q * n' + q' * n) (u * n' + u' * n) (v * n' + v' * n) (n * n')), []) := by
  obtain ⟨i0, n0, hc, h1, si, sq, su, sv, sn⟩ := h
  obtain ⟨i0', n0', hc', h1', si', sq', su', sv', sn'⟩ := g
  simp (maxDischargeDepth := 40) only [fZip, zipD, gSum, intsOf, List.foldl_cons, List.foldl_nil, mkF, fRet, fRetL, fRetN, fSkip, fSeq, fNever, fSet, fAsg, fNew, fIfS, fDrop, fPar, fPar3, fSetc, fSetc2, fVar, fLit, fOp, fUn, fTup, fTup.datsOf, fLst, fNilA, fConsA, fStarA, fCelA, fOfL, fTru, fAndT, fOrT, fNotT, fAndV, fOrV, fNotV, fIf, fBi, fCall, fCallL, fCallFr, fPerm, callF, celOf, celsOk, norm, aName, aNil, aCons, aTup, setD, fSl, fIt, fItL, fItT, fFor, forGo, fLc, lcGo, fYes, wipeD, fCix, fList, fSlL, fPart, fNoPart, fChain, List.length_cons, List.length_nil, List.getElem?_cons_zero, List.getElem?_cons_succ, List.getElem?_nil, List.set_cons_zero, List.set_cons_succ, List.map_cons, List.map_nil, List.cons_append, List.nil_append, List.append_nil, List.replicate, List.take_zero, List.take_nil, List.take_succ_cons, ↓bsome, ↓msome, Option.bind_some, Option.map_some, Option.bind_none, Option.map_none, Nat.sub_self, Int.cast_ofNat_Int, Nat.reduceAdd, Nat.reduceMul, Nat.reduceSub, Nat.reduceLeDiff, Nat.reduceLT, Nat.zero_add, Nat.add_zero, and_self, and_true, true_and, if_true, if_false, ↓reduceIte, ite_true, Bool.true_eq_false, Bool.false_eq_true, beq_self_eq_true, Bool.and_self, Bool.not_true, Bool.not_false, decide_true, decide_false, gLen, gTyIs, gTyNot, tyOf, gNeg, gPlus, DL.gSub, gCmp, gInt, gAbs, gTuple, gMax, gMin, gGcd, LIM, gIx, ix1_0, ix2_0, ix2_1, ix3_0, ix3_1, ix3_2, ix4_0, ix4_1, ix4_2, ix4_3, ix5_0, ix5_1, ix5_2, ix5_3, ix5_4, ix6_0, ix6_1, ix6_2, ix6_3, ix6_4, ix6_5, cut5_04, cut5_14, cut4_04, cut4_03, cut4_14, Sm.mul, Sm.add, Sm.sub, Sm.neg, Sm.div, Sm.lit, sz_0, sz_1, sz_2, sz_3, sz_4, sz_8, Nat.reduceDiv, Nat.reduceSub, Nat.reduceLT, Nat.reduceLeDiff, Int.reduceLT, Int.reduceNeg, Int.mul_pos, gMul_ok, gDiv_ok, gMod_ok, F__law_sum, b__law_sum, e_lll5, si, sq, su, sv, sn, si', sq', su', sv', sn']
theorem e_linner (h : Lt 300 i q u v n) (g : Lt 300 i' q' u' v' n') : F__law_inner [.dat (T5 i q u v n), .dat (T5 i' q' u' v' n')] [] = some (.dat (Rt (i * i' - (q * q' + u * u' + v * v')) (n * n')), []) := by
  obtain ⟨i0, n0, hc, h1, si, sq, su, sv, sn⟩ := h
  obtain ⟨i0', n0', hc', h1', si', sq', su', sv', sn'⟩ := g
  simp (maxDischargeDepth := 40) only [fZip, zipD, gSum, intsOf, List.foldl_cons, List.foldl_nil, mkF, fRet, fRetL, fRetN, fSkip, fSeq, fNever, fSet, fAsg, fNew, fIfS, fDrop, fPar, fPar3, fSetc, fSetc2, fVar, fLit, fOp, fUn, fTup, fTup.datsOf, fLst, fNilA, fConsA, fStarA, fCelA, fOfL, fTru, fAndT, fOrT, fNotT, fAndV, fOrV, fNotV, fIf, fBi, fCall, fCallL, fCallFr, fPerm, callF, celOf, celsOk, norm, aName, aNil, aCons, aTup, setD, fSl, fIt, fItL, fItT, fFor, forGo, fLc, lcGo, fYes, wipeD, fCix, fList, fSlL, fPart, fNoPart, fChain, List.length_cons, List.length_nil, List.getElem?_cons_zero, List.getElem?_cons_succ, List.getElem?_nil, List.set_cons_zero, List.set_cons_succ, List.map_cons, List.map_nil, List.cons_append, List.nil_append, List.append_nil, List.replicate, List.take_zero, List.take_nil, List.take_succ_cons, ↓bsome, ↓msome, Option.bind_some, Option.map_some, Option.bind_none, Option.map_none, Nat.sub_self, Int.cast_ofNat_Int, Nat.reduceAdd, Nat.reduceMul, Nat.reduceSub, Nat.reduceLeDiff, Nat.reduceLT, Nat.zero_add, Nat.add_zero, and_self, and_true, true_and, if_true, if_false, ↓reduceIte, ite_true, Bool.true_eq_false, Bool.false_eq_true, beq_self_eq_true, Bool.and_self, Bool.not_true, Bool.not_false, decide_true, decide_false, gLen, gTyIs, gTyNot, tyOf, gNeg, gPlus, DL.gSub, gCmp, gInt, gAbs, gTuple, gMax, gMin, gGcd, LIM, gIx, ix1_0, ix2_0, ix2_1, ix3_0, ix3_1, ix3_2, ix4_0, ix4_1, ix4_2, ix4_3, ix5_0, ix5_1, ix5_2, ix5_3, ix5_4, ix6_0, ix6_1, ix6_2, ix6_3, ix6_4, ix6_5, cut5_04, cut5_14, cut4_04, cut4_03, cut4_14, Sm.mul, Sm.add, Sm.sub, Sm.neg, Sm.div, Sm.lit, sz_0, sz_1, sz_2, sz_3, sz_4, sz_8, Nat.reduceDiv, Nat.reduceSub, Nat.reduceLT, Nat.reduceLeDiff, Int.reduceLT, Int.reduceNeg, Int.mul_pos, gMul_ok, gDiv_ok, gMod_ok, F__law_inner, b__law_inner, e_ldot3, e_lratio, n0, n0', si, sq, su, sv, sn, si', sq', su', sv', sn']
theorem e_lplus (h : Fr 300 p r) (g : Fr 300 p' r') : F__law_plus [.dat (T2 p r), .dat (T2 p' r')] [] = some (.dat (Rt (p * r' + p' * r) (r * r')), []) := by
  obtain ⟨r0, o, sp, sr⟩ := h
  obtain ⟨r0', o', sp', sr'⟩ := g
  simp (maxDischargeDepth := 40) only [fZip, zipD, gSum, intsOf, List.foldl_cons, List.foldl_nil, mkF, fRet, fRetL, fRetN, fSkip, fSeq, fNever, fSet, fAsg, fNew, fIfS, fDrop, fPar, fPar3, fSetc, fSetc2, fVar, fLit, fOp, fUn, fTup, fTup.datsOf, fLst, fNilA, fConsA, fStarA, fCelA, fOfL, fTru, fAndT, fOrT, fNotT, fAndV, fOrV, fNotV, fIf, fBi, fCall, fCallL, fCallFr, fPerm, callF, celOf, celsOk, norm, aName, aNil, aCons, aTup, setD, fSl, fIt, fItL, fItT, fFor, forGo, fLc, lcGo, fYes, wipeD, fCix, fList, fSlL, fPart, fNoPart, fChain, List.length_cons, List.length_nil, List.getElem?_cons_zero, List.getElem?_cons_succ, List.getElem?_nil, List.set_cons_zero, List.set_cons_succ, List.map_cons, List.map_nil, List.cons_append, List.nil_append, List.append_nil, List.replicate, List.take_zero, List.take_nil, List.take_succ_cons, ↓bsome, ↓msome, Option.bind_some, Option.map_some, Option.bind_none, Option.map_none, Nat.sub_self, Int.cast_ofNat_Int, Nat.reduceAdd, Nat.reduceMul, Nat.reduceSub, Nat.reduceLeDiff, Nat.reduceLT, Nat.zero_add, Nat.add_zero, and_self, and_true, true_and, if_true, if_false, ↓reduceIte, ite_true, Bool.true_eq_false, Bool.false_eq_true, beq_self_eq_true, Bool.and_self, Bool.not_true, Bool.not_false, decide_true, decide_false, gLen, gTyIs, gTyNot, tyOf, gNeg, gPlus, DL.gSub, gCmp, gInt, gAbs, gTuple, gMax, gMin, gGcd, LIM, gIx, ix1_0, ix2_0, ix2_1, ix3_0, ix3_1, ix3_2, ix4_0, ix4_1, ix4_2, ix4_3, ix5_0, ix5_1, ix5_2, ix5_3, ix5_4, ix6_0, ix6_1, ix6_2, ix6_3, ix6_4, ix6_5, cut5_04, cut5_14, cut4_04, cut4_03, cut4_14, Sm.mul, Sm.add, Sm.sub, Sm.neg, Sm.div, Sm.lit, sz_0, sz_1, sz_2, sz_3, sz_4, sz_8, Nat.reduceDiv, Nat.reduceSub, Nat.reduceLT, Nat.reduceLeDiff, Int.reduceLT, Int.reduceNeg, Int.mul_pos, gMul_ok, gDiv_ok, gMod_ok, F__law_plus, b__law_plus, e_lratio, r0, r0', sp, sr, sp', sr']
theorem e_lby (h : Fr 300 p r) (g : Fr 300 p' r') : F__law_by [.dat (T2 p r), .dat (T2 p' r')] [] = some (.dat (Rt (p * p') (r * r')), []) := by
  obtain ⟨r0, o, sp, sr⟩ := h
  obtain ⟨r0', o', sp', sr'⟩ := g
  simp (maxDischargeDepth := 40) only [fZip, zipD, gSum, intsOf, List.foldl_cons, List.foldl_nil, mkF, fRet, fRetL, fRetN, fSkip, fSeq, fNever, fSet, fAsg, fNew, fIfS, fDrop, fPar, fPar3, fSetc, fSetc2, fVar, fLit, fOp, fUn, fTup, fTup.datsOf, fLst, fNilA, fConsA, fStarA, fCelA, fOfL, fTru, fAndT, fOrT, fNotT, fAndV, fOrV, fNotV, fIf, fBi, fCall, fCallL, fCallFr, fPerm, callF, celOf, celsOk, norm, aName, aNil, aCons, aTup, setD, fSl, fIt, fItL, fItT, fFor, forGo, fLc, lcGo, fYes, wipeD, fCix, fList, fSlL, fPart, fNoPart, fChain, List.length_cons, List.length_nil, List.getElem?_cons_zero, List.getElem?_cons_succ, List.getElem?_nil, List.set_cons_zero, List.set_cons_succ, List.map_cons, List.map_nil, List.cons_append, List.nil_append, List.append_nil, List.replicate, List.take_zero, List.take_nil, List.take_succ_cons, ↓bsome, ↓msome, Option.bind_some, Option.map_some, Option.bind_none, Option.map_none, Nat.sub_self, Int.cast_ofNat_Int, Nat.reduceAdd, Nat.reduceMul, Nat.reduceSub, Nat.reduceLeDiff, Nat.reduceLT, Nat.zero_add, Nat.add_zero, and_self, and_true, true_and, if_true, if_false, ↓reduceIte, ite_true, Bool.true_eq_false, Bool.false_eq_true, beq_self_eq_true, Bool.and_self, Bool.not_true, Bool.not_false, decide_true, decide_false, gLen, gTyIs, gTyNot, tyOf, gNeg, gPlus, DL.gSub, gCmp, gInt, gAbs, gTuple, gMax, gMin, gGcd, LIM, gIx, ix1_0, ix2_0, ix2_1, ix3_0, ix3_1, ix3_2, ix4_0, ix4_1, ix4_2, ix4_3, ix5_0, ix5_1, ix5_2, ix5_3, ix5_4, ix6_0, ix6_1, ix6_2, ix6_3, ix6_4, ix6_5, cut5_04, cut5_14, cut4_04, cut4_03, cut4_14, Sm.mul, Sm.add, Sm.sub, Sm.neg, Sm.div, Sm.lit, sz_0, sz_1, sz_2, sz_3, sz_4, sz_8, Nat.reduceDiv, Nat.reduceSub, Nat.reduceLT, Nat.reduceLeDiff, Int.reduceLT, Int.reduceNeg, Int.mul_pos, gMul_ok, gDiv_ok, gMod_ok, F__law_by, b__law_by, e_lratio, r0, r0', sp, sr, sp', sr']
/-! what is checked of a light -/
theorem isi_int (a : Int) : gIsi "int" (.int a) = some (.bool true) := rfl
theorem kit_ib : kitB "int" "bool" = some false := by decide +kernel
theorem isi_bool (a : Int) : gIsi "bool" (.int a) = some (.bool false) := by
  show (kitB "int" "bool").map PyData.bool = _
  rw [kit_ib]; rfl
theorem eq_nil : gEq (.list []) (.list []) = some (.bool true) := rfl
theorem lc_whole (c : Cs) : ∀ v : List Int, ∀ x0 : Option SV, lcGo (aName 1) (fOrT (fNotT (fTru (fUn (gIsi "int") (fVar 1)))) (fTru (fUn (gIsi "bool") (fVar 1)))) (fVar 1) [x0, none] (v.map .int) c = some ([], c)
  | [], _ => rfl
  | x :: v, x0 => by
    have ih := lc_whole c v x0
    simp (maxDischargeDepth := 40) only [fZip, zipD, gSum, intsOf, List.foldl_cons, List.foldl_nil, mkF, fRet, fRetL, fRetN, fSkip, fSeq, fNever, fSet, fAsg, fNew, fIfS, fDrop, fPar, fPar3, fSetc, fSetc2, fVar, fLit, fOp, fUn, fTup, fTup.datsOf, fLst, fNilA, fConsA, fStarA, fCelA, fOfL, fTru, fAndT, fOrT, fNotT, fAndV, fOrV, fNotV, fIf, fBi, fCall, fCallL, fCallFr, fPerm, callF, celOf, celsOk, norm, aName, aNil, aCons, aTup, setD, fSl, fIt, fItL, fItT, fFor, forGo, fLc, lcGo, fYes, wipeD, fCix, fList, fSlL, fPart, fNoPart, fChain, List.length_cons, List.length_nil, List.getElem?_cons_zero, List.getElem?_cons_succ, List.getElem?_nil, List.set_cons_zero, List.set_cons_succ, List.map_cons, List.map_nil, List.cons_append, List.nil_append, List.append_nil, List.replicate, List.take_zero, List.take_nil, List.take_succ_cons, ↓bsome, ↓msome, Option.bind_some, Option.map_some, Option.bind_none, Option.map_none, Nat.sub_self, Int.cast_ofNat_Int, Nat.reduceAdd, Nat.reduceMul, Nat.reduceSub, Nat.reduceLeDiff, Nat.reduceLT, Nat.zero_add, Nat.add_zero, and_self, and_true, true_and, if_true, if_false, ↓reduceIte, ite_true, Bool.true_eq_false, Bool.false_eq_true, beq_self_eq_true, Bool.and_self, Bool.not_true, Bool.not_false, decide_true, decide_false, gLen, gTyIs, gTyNot, tyOf, gNeg, gPlus, DL.gSub, gCmp, gInt, gAbs, gTuple, gMax, gMin, gGcd, LIM, gIx, ix1_0, ix2_0, ix2_1, ix3_0, ix3_1, ix3_2, ix4_0, ix4_1, ix4_2, ix4_3, ix5_0, ix5_1, ix5_2, ix5_3, ix5_4, ix6_0, ix6_1, ix6_2, ix6_3, ix6_4, ix6_5, cut5_04, cut5_14, cut4_04, cut4_03, cut4_14, Sm.mul, Sm.add, Sm.sub, Sm.neg, Sm.div, Sm.lit, sz_0, sz_1, sz_2, sz_3, sz_4, sz_8, Nat.reduceDiv, Nat.reduceSub, Nat.reduceLT, Nat.reduceLeDiff, Int.reduceLT, Int.reduceNeg, Int.mul_pos, gMul_ok, gDiv_ok, gMod_ok, isi_int, isi_bool, ih]
theorem e_whole {v : List Int} {r : PyData} (h : IsRow v r) (hl : v.length ≤ 1000) : F__law_are_whole [.dat r] [] = some (.dat (.bool true), []) := by
  have h1 := lc_whole [] v (some (.dat r))
  have h2 : (v.map PyData.int).length ≤ 100000 := by rw [List.length_map]; omega
  cases h <;> simp only [fZip, zipD, gSum, intsOf, List.foldl_cons, List.foldl_nil, mkF, fRet, fRetL, fRetN, fSkip, fSeq, fNever, fSet, fAsg, fNew, fIfS, fDrop, fPar, fPar3, fSetc, fSetc2, fVar, fLit, fOp, fUn, fTup, fTup.datsOf, fLst, fNilA, fConsA, fStarA, fCelA, fOfL, fTru, fAndT, fOrT, fNotT, fAndV, fOrV, fNotV, fIf, fBi, fCall, fCallL, fCallFr, fPerm, callF, celOf, celsOk, norm, aName, aNil, aCons, aTup, setD, fSl, fIt, fItL, fItT, fFor, forGo, fLc, lcGo, fYes, wipeD, fCix, fList, fSlL, fPart, fNoPart, fChain, List.length_cons, List.length_nil, List.getElem?_cons_zero, List.getElem?_cons_succ, List.getElem?_nil, List.set_cons_zero, List.set_cons_succ, List.map_cons, List.map_nil, List.cons_append, List.nil_append, List.append_nil, List.replicate, List.take_zero, List.take_nil, List.take_succ_cons, ↓bsome, ↓msome, Option.bind_some, Option.map_some, Option.bind_none, Option.map_none, Nat.sub_self, Int.cast_ofNat_Int, Nat.reduceAdd, Nat.reduceMul, Nat.reduceSub, Nat.reduceLeDiff, Nat.reduceLT, Nat.zero_add, Nat.add_zero, and_self, and_true, true_and, if_true, if_false, ↓reduceIte, ite_true, Bool.true_eq_false, Bool.false_eq_true, beq_self_eq_true, Bool.and_self, Bool.not_true, Bool.not_false, decide_true, decide_false, gLen, gTyIs, gTyNot, tyOf, gNeg, gPlus, DL.gSub, gCmp, gInt, gAbs, gTuple, gMax, gMin, gGcd, LIM, gIx, F__law_are_whole, b__law_are_whole, h1, h2, eq_nil]
theorem e_whole5 {a b c d e : Int} : F__law_are_whole [.dat (T5 a b c d e)] [] = some (.dat (.bool true), []) := e_whole (v := [a, b, c, d, e]) .t (by simp)
theorem e_whole4 {a b c d : Int} : F__law_are_whole [.dat (T4 a b c d)] [] = some (.dat (.bool true), []) := e_whole (v := [a, b, c, d]) .t (by simp)
theorem e_lrow5 {a b c d e : Int} (ho : gL [a, b, c, d, e] = 1) (ha : Sm 1400 a) (hb : Sm 1400 b) (hc : Sm 1400 c) (hd : Sm 1400 d) (he : Sm 1400 e) : F__law_is_row [.dat (T5 a b c d e), .dat (.int 5)] [] = some (.dat (.bool true), []) := by
  have e1 : F__law_common [.dat (T5 a b c d e)] [] = some (.dat (.int (gL [a, b, c, d, e] : Nat)), []) := e_lcommon (v := [a, b, c, d, e]) .t (m5 ha hb hc hd he)
  have e2 : gIsi "tuple" (T5 a b c d e) = some (.bool true) := rfl
  have h1 := one_eq ho
  simp (maxDischargeDepth := 40) only [fZip, zipD, gSum, intsOf, List.foldl_cons, List.foldl_nil, mkF, fRet, fRetL, fRetN, fSkip, fSeq, fNever, fSet, fAsg, fNew, fIfS, fDrop, fPar, fPar3, fSetc, fSetc2, fVar, fLit, fOp, fUn, fTup, fTup.datsOf, fLst, fNilA, fConsA, fStarA, fCelA, fOfL, fTru, fAndT, fOrT, fNotT, fAndV, fOrV, fNotV, fIf, fBi, fCall, fCallL, fCallFr, fPerm, callF, celOf, celsOk, norm, aName, aNil, aCons, aTup, setD, fSl, fIt, fItL, fItT, fFor, forGo, fLc, lcGo, fYes, wipeD, fCix, fList, fSlL, fPart, fNoPart, fChain, List.length_cons, List.length_nil, List.getElem?_cons_zero, List.getElem?_cons_succ, List.getElem?_nil, List.set_cons_zero, List.set_cons_succ, List.map_cons, List.map_nil, List.cons_append, List.nil_append, List.append_nil, List.replicate, List.take_zero, List.take_nil, List.take_succ_cons, ↓bsome, ↓msome, Option.bind_some, Option.map_some, Option.bind_none, Option.map_none, Nat.sub_self, Int.cast_ofNat_Int, Nat.reduceAdd, Nat.reduceMul, Nat.reduceSub, Nat.reduceLeDiff, Nat.reduceLT, Nat.zero_add, Nat.add_zero, and_self, and_true, true_and, if_true, if_false, ↓reduceIte, ite_true, Bool.true_eq_false, Bool.false_eq_true, beq_self_eq_true, Bool.and_self, Bool.not_true, Bool.not_false, decide_true, decide_false, gLen, gTyIs, gTyNot, tyOf, gNeg, gPlus, DL.gSub, gCmp, gInt, gAbs, gTuple, gMax, gMin, gGcd, LIM, gIx, ix1_0, ix2_0, ix2_1, ix3_0, ix3_1, ix3_2, ix4_0, ix4_1, ix4_2, ix4_3, ix5_0, ix5_1, ix5_2, ix5_3, ix5_4, ix6_0, ix6_1, ix6_2, ix6_3, ix6_4, ix6_5, cut5_04, cut5_14, cut4_04, cut4_03, cut4_14, Sm.mul, Sm.add, Sm.sub, Sm.neg, Sm.div, Sm.lit, sz_0, sz_1, sz_2, sz_3, sz_4, sz_8, Nat.reduceDiv, Nat.reduceSub, Nat.reduceLT, Nat.reduceLeDiff, Int.reduceLT, Int.reduceNeg, Int.mul_pos, gMul_ok, gDiv_ok, gMod_ok, F__law_is_row, b__law_is_row, e1, e2, e_whole5, gEq_int, h1]
theorem e_lcone (si : Sm 4000 i) (sq : Sm 4000 q) (su : Sm 4000 u) (sv : Sm 4000 v) : F__law_cone [.dat (T5 i q u v n)] [] = some (.dat (.int (i * i - q * q - u * u - v * v)), []) := by
  simp (maxDischargeDepth := 40) only [fZip, zipD, gSum, intsOf, List.foldl_cons, List.foldl_nil, mkF, fRet, fRetL, fRetN, fSkip, fSeq, fNever, fSet, fAsg, fNew, fIfS, fDrop, fPar, fPar3, fSetc, fSetc2, fVar, fLit, fOp, fUn, fTup, fTup.datsOf, fLst, fNilA, fConsA, fStarA, fCelA, fOfL, fTru, fAndT, fOrT, fNotT, fAndV, fOrV, fNotV, fIf, fBi, fCall, fCallL, fCallFr, fPerm, callF, celOf, celsOk, norm, aName, aNil, aCons, aTup, setD, fSl, fIt, fItL, fItT, fFor, forGo, fLc, lcGo, fYes, wipeD, fCix, fList, fSlL, fPart, fNoPart, fChain, List.length_cons, List.length_nil, List.getElem?_cons_zero, List.getElem?_cons_succ, List.getElem?_nil, List.set_cons_zero, List.set_cons_succ, List.map_cons, List.map_nil, List.cons_append, List.nil_append, List.append_nil, List.replicate, List.take_zero, List.take_nil, List.take_succ_cons, ↓bsome, ↓msome, Option.bind_some, Option.map_some, Option.bind_none, Option.map_none, Nat.sub_self, Int.cast_ofNat_Int, Nat.reduceAdd, Nat.reduceMul, Nat.reduceSub, Nat.reduceLeDiff, Nat.reduceLT, Nat.zero_add, Nat.add_zero, and_self, and_true, true_and, if_true, if_false, ↓reduceIte, ite_true, Bool.true_eq_false, Bool.false_eq_true, beq_self_eq_true, Bool.and_self, Bool.not_true, Bool.not_false, decide_true, decide_false, gLen, gTyIs, gTyNot, tyOf, gNeg, gPlus, DL.gSub, gCmp, gInt, gAbs, gTuple, gMax, gMin, gGcd, LIM, gIx, ix1_0, ix2_0, ix2_1, ix3_0, ix3_1, ix3_2, ix4_0, ix4_1, ix4_2, ix4_3, ix5_0, ix5_1, ix5_2, ix5_3, ix5_4, ix6_0, ix6_1, ix6_2, ix6_3, ix6_4, ix6_5, cut5_04, cut5_14, cut4_04, cut4_03, cut4_14, Sm.mul, Sm.add, Sm.sub, Sm.neg, Sm.div, Sm.lit, sz_0, sz_1, sz_2, sz_3, sz_4, sz_8, Nat.reduceDiv, Nat.reduceSub, Nat.reduceLT, Nat.reduceLeDiff, Int.reduceLT, Int.reduceNeg, Int.mul_pos, gMul_ok, gDiv_ok, gMod_ok, *, F__law_cone, b__law_cone]
theorem e_lshine (h : Lt 1400 i q u v n) : F__law_is_shine [.dat (T5 i q u v n)] [] = some (.dat (.bool true), []) := by
  have e1 := e_lrow5 h.one h.si.sm h.sq.sm h.su.sm h.sv.sm h.sn.sm
  have e2 := e_lcone (n := n) (h.si.sm (m := 4000)) (h.sq.sm (m := 4000)) (h.su.sm (m := 4000)) (h.sv.sm (m := 4000))
  have hc : 0 ≤ i * i - q * q - u * u - v * v := by have := h.cone; omega
  obtain ⟨i0, n0, hc', h1, si, sq, su, sv, sn⟩ := h
  simp (maxDischargeDepth := 40) only [fZip, zipD, gSum, intsOf, List.foldl_cons, List.foldl_nil, mkF, fRet, fRetL, fRetN, fSkip, fSeq, fNever, fSet, fAsg, fNew, fIfS, fDrop, fPar, fPar3, fSetc, fSetc2, fVar, fLit, fOp, fUn, fTup, fTup.datsOf, fLst, fNilA, fConsA, fStarA, fCelA, fOfL, fTru, fAndT, fOrT, fNotT, fAndV, fOrV, fNotV, fIf, fBi, fCall, fCallL, fCallFr, fPerm, callF, celOf, celsOk, norm, aName, aNil, aCons, aTup, setD, fSl, fIt, fItL, fItT, fFor, forGo, fLc, lcGo, fYes, wipeD, fCix, fList, fSlL, fPart, fNoPart, fChain, List.length_cons, List.length_nil, List.getElem?_cons_zero, List.getElem?_cons_succ, List.getElem?_nil, List.set_cons_zero, List.set_cons_succ, List.map_cons, List.map_nil, List.cons_append, List.nil_append, List.append_nil, List.replicate, List.take_zero, List.take_nil, List.take_succ_cons, ↓bsome, ↓msome, Option.bind_some, Option.map_some, Option.bind_none, Option.map_none, Nat.sub_self, Int.cast_ofNat_Int, Nat.reduceAdd, Nat.reduceMul, Nat.reduceSub, Nat.reduceLeDiff, Nat.reduceLT, Nat.zero_add, Nat.add_zero, and_self, and_true, true_and, if_true, if_false, ↓reduceIte, ite_true, Bool.true_eq_false, Bool.false_eq_true, beq_self_eq_true, Bool.and_self, Bool.not_true, Bool.not_false, decide_true, decide_false, gLen, gTyIs, gTyNot, tyOf, gNeg, gPlus, DL.gSub, gCmp, gInt, gAbs, gTuple, gMax, gMin, gGcd, LIM, gIx, ix1_0, ix2_0, ix2_1, ix3_0, ix3_1, ix3_2, ix4_0, ix4_1, ix4_2, ix4_3, ix5_0, ix5_1, ix5_2, ix5_3, ix5_4, ix6_0, ix6_1, ix6_2, ix6_3, ix6_4, ix6_5, cut5_04, cut5_14, cut4_04, cut4_03, cut4_14, Sm.mul, Sm.add, Sm.sub, Sm.neg, Sm.div, Sm.lit, sz_0, sz_1, sz_2, sz_3, sz_4, sz_8, Nat.reduceDiv, Nat.reduceSub, Nat.reduceLT, Nat.reduceLeDiff, Int.reduceLT, Int.reduceNeg, Int.mul_pos, gMul_ok, gDiv_ok, gMod_ok, F__law_is_shine, b__law_is_shine, e1, e2, i0, n0, hc]
/-! Cauchy's inequality -/
theorem cs3 (a b c x y z : Int) : (a * x + b * y + c * z) * (a * x + b * y + c * z) + ((a * y - b * x) * (a * y - b * x) + (a * z - c * x) * (a * z - c * x) + (b * z - c * y) * (b * z - c * y)) = (a * a + b * b + c * c) * (x * x + y * y + z * z) := by grind
theorem le_of_sq {a b : Int} (hb : 0 ≤ b) (h : a * a ≤ b * b) : a ≤ b := Classical.byContradiction fun n => by
  have h1 : b * b < a * a := Int.mul_lt_mul' (by omega) (by omega) (by omega) (by omega)
  omega
theorem cauchy (h0 : 0 ≤ i) (h1 : 0 ≤ i') (hc : 0 ≤ i * i - (q * q + u * u + v * v)) (hc' : 0 ≤ i' * i' - (q' * q' + u' * u' + v' * v')) : 0 ≤ i * i' - (q * q' + u * u' + v * v') := by
  have e := cs3 q u v q' u' v'
  have n1 := sq_nn (q * u' - u * q')
  have n2 := sq_nn (q * v' - v * q')
  have n3 := sq_nn (u * v' - v * u')
  have n4 := sq_nn q'
  have n5 := sq_nn u'
  have n6 := sq_nn v'
  have h2 : (q * q + u * u + v * v) * (q' * q' + u' * u' + v' * v') ≤ (i * i) * (i' * i') := Int.mul_le_mul (by omega) (by omega) (by omega) (sq_nn i)
  have h3 : (i * i) * (i' * i') = (i * i') * (i * i') := by grind
  have := le_of_sq (a := q * q' + u * u' + v * v') (b := i * i') (Int.mul_nonneg h0 h1) (by omega)
  omega
end
end PL


set_option Elab.async false
set_option linter.all false
set_option maxRecDepth 100000
set_option maxHeartbeats 1000000
set_option exponentiation.threshold 20000
namespace PL
open PySem PySem.Spec L2 DL
theorem rng2 : rngOk 2 = true := rng_ok (by decide) (by decide)
theorem tn2 : (2 : Int).toNat = 2 := rfl
theorem gEq_bool (a b : Bool) : gEq (.bool a) (.bool b) = some (.bool (a == b)) := rfl
theorem gEq_tn (v : List Int) : gEq (.tuple (nts v)) .none = some (.bool false) := by
  unfold gEq
  rw [if_pos ⟨shaped_tup v, rfl⟩]; rfl
theorem gEq_T4n (a b c d : Int) : gEq (T4 a b c d) .none = some (.bool false) := gEq_tn [a, b, c, d]
theorem R5c {a b c d e a' b' c' d' e' : Int} (h1 : a = a') (h2 : b = b') (h3 : c = c') (h4 : d = d') (h5 : e = e') : R5 a b c d e = R5 a' b' c' d' e' := by rw [h1, h2, h3, h4, h5]
theorem R4c {a b c d a' b' c' d' : Int} (h1 : a = a') (h2 : b = b') (h3 : c = c') (h4 : d = d') : R4 a b c d = R4 a' b' c' d' := by rw [h1, h2, h3, h4]
theorem Rtc {a b a' b' : Int} (h1 : a = a') (h2 : b = b') : Rt a b = Rt a' b' := by rw [h1, h2]
/-! short data -/
theorem nice_int {n : Nat} {x : Int} (h : Sz n x) : Nice n (.int x) := by simpa only [Nice] using h.sm (Nat.le_refl n)
theorem nice_nil {n : Nat} : NiceAll n [] := by simp only [NiceAll]
theorem nice_cons {n : Nat} {d : PyData} {ds : List PyData} (h : Nice n d) (g : NiceAll n ds) : NiceAll n (d :: ds) := by simp only [NiceAll]; exact ⟨h, g⟩
theorem nice_tup {n : Nat} {ds : List PyData} (h : NiceAll n ds) : Nice n (.tuple ds) := by simpa only [Nice] using h
theorem nice_list {n : Nat} {ds : List PyData} (h : NiceAll n ds) : Nice n (.list ds) := by simpa only [Nice] using h
theorem nice_none {n : Nat} : Nice n .none := by simp only [Nice]
theorem nice_bool {n : Nat} {b : Bool} : Nice n (.bool b) := by simp only [Nice]
section
variable {m : Nat} {a b c d e : Int}
theorem nice2 (ha : Sz m a) (hb : Sz m b) : Nice m (T2 a b) := nice_tup (nice_cons (nice_int ha) (nice_cons (nice_int hb) nice_nil))
theorem nice4 (ha : Sz m a) (hb : Sz m b) (hc : Sz m c) (hd : Sz m d) : Nice m (T4 a b c d) := nice_tup (nice_cons (nice_int ha) (nice_cons (nice_int hb) (nice_cons (nice_int hc) (nice_cons (nice_int hd) nice_nil))))
theorem nice5 (ha : Sz m a) (hb : Sz m b) (hc : Sz m c) (hd : Sz m d) (he : Sz m e) : Nice m (T5 a b c d e) := nice_tup (nice_cons (nice_int ha) (nice_cons (nice_int hb) (nice_cons (nice_int hc) (nice_cons (nice_int hd) (nice_cons (nice_int he) nice_nil)))))
theorem Lt.nice {i q u v n : Int} (h : Lt m i q u v n) : Nice m (T5 i q u v n) := nice5 h.si h.sq h.su h.sv h.sn
theorem Kd.nice {q u v n : Int} (h : Kd m q u v n) : Nice m (T4 q u v n) := nice4 h.sq h.su h.sv h.sn
theorem Fr.nice {p q : Int} (h : Fr m p q) : Nice m (T2 p q) := nice2 h.sp h.sq
end
mutual
theorem Nice.up {m n : Nat} (hn : m ≤ n) : ∀ d : PyData, Nice m d → Nice n d
  | .none, _ => by simp only [Nice]
  | .bool _, _ => by simp only [Nice]
  | .int _, h => by simp only [Nice] at h ⊢; exact Sm.up n h hn
  | .str _, h => by simp only [Nice] at h
  | .list ds, h => by simp only [Nice] at h ⊢; exact NiceAll.up hn ds h
  | .tuple ds, h => by simp only [Nice] at h ⊢; exact NiceAll.up hn ds h
  | .dict _, h => by simp only [Nice] at h
theorem NiceAll.up {m n : Nat} (hn : m ≤ n) : ∀ ds : List PyData, NiceAll m ds → NiceAll n ds
  | [], _ => by simp only [NiceAll]
  | d :: ds, h => by simp only [NiceAll] at h ⊢; exact ⟨Nice.up hn d h.1, NiceAll.up hn ds h.2⟩
end
/-- of one, of two data -/
theorem rep_1 {n : Nat} {d : PyData} (h : Nice n d) (hn : n ≤ 1500) (hb : d.bulk ≤ 500 := by exact Nat.le_of_ble_eq_true rfl) (hd : d.depth ≤ 60 := by exact Nat.le_of_ble_eq_true rfl) : ∃ t, Rep d t := rep_ok h (by omega) (by
  have : (n + 11) * d.bulk ≤ 1511 * 500 := Nat.mul_le_mul (by omega) hb
  omega) hd
theorem rep_l2 {n : Nat} {x y : PyData} (h : Nice n x) (g : Nice n y) (hn : n ≤ 1500) (hb : (PyData.list [x, y]).bulk ≤ 500) (hd : (PyData.list [x, y]).depth ≤ 60) : ∃ t, Rep (.list [x, y]) t :=
  rep_1 (nice_list (nice_cons h (nice_cons g nice_nil))) hn hb hd
/-! sums of lights -/
section
variable {m m' : Nat} {i q u v n i' q' u' v' n' : Int}
theorem lt_added (h : Lt m i q u v n) (g : Lt m' i' q' u' v' n') : Lt (m + m' + 1) ((n' * i + n * i') / mL [n' * i + n * i', n' * q + n * q', n' * u + n * u', n' * v + n * v', n * n']) ((n' * q + n * q') / mL [n' * i + n * i', n' * q + n * q', n' * u + n * u', n' * v + n * v', n * n'])
    ((n' * u + n * u') / mL [n' * i + n * i', n' * q + n * q', n' * u + n * u', n' * v + n * v', n * n']) ((n' * v + n * v') / mL [n' * i + n * i', n' * q + n * q', n' * u + n * u', n' * v + n * v', n * n']) ((n * n') / mL [n' * i + n * i', n' * q + n * q', n' * u + n * u', n' * v + n * v', n * n']) := by
  obtain ⟨i0, n0, hc, h1, si, sq, su, sv, sn⟩ := h
  obtain ⟨i0', n0', hc', h1', si', sq', su', sv', sn'⟩ := g
  have hx := cauchy i0 i0' hc hc'
  have z : ∀ x x' : Int, Sz m x → Sz m' x' → Sz (m + m' + 1) (n' * x + n * x') := fun x x' s s' => ((sn'.mul s).add (sn.mul s')).by _ (by omega)
  refine lt_R5 ?_ (Int.mul_pos n0 n0') ?_ (z _ _ si si') (z _ _ sq sq') (z _ _ su su') (z _ _ sv sv') ((sn.mul sn').by _ (by omega))
  · have a1 := Int.mul_nonneg (Int.le_of_lt n0') i0
    have a2 := Int.mul_nonneg (Int.le_of_lt n0) i0'
    omega
  · have e : (n' * i + n * i') * (n' * i + n * i') - ((n' * q + n * q') * (n' * q + n * q') + (n' * u + n * u') * (n' * u + n * u') + (n' * v + n * v') * (n' * v + n * v')) = (n' * n') * (i * i - (q * q + u * u + v * v)) + (n * n) * (i' * i' - (q' * q' + u' * u' + v' * v')) + 2 * ((n * n') * (i * i' - (q * q' + u * u' + v * v'))) := by grind
    rw [e]
    have b1 := Int.mul_nonneg (sq_nn n') hc
    have b2 := Int.mul_nonneg (sq_nn n) hc'
    have b3 := Int.mul_nonneg (Int.le_of_lt (Int.mul_pos n0 n0')) hx
    omega
/-- lights whose product is 0: both pure and along one line -/
theorem prod_zero (i0 : 0 < i) (i0' : 0 < i') (hc : 0 ≤ i * i - (q * q + u * u + v * v)) (hc' : 0 ≤ i' * i' - (q' * q' + u' * u' + v' * v')) (hp : i * i' - (q * q' + u * u' + v * v') = 0) :
    i * i - (q * q + u * u + v * v) = 0 ∧ i' * i' - (q' * q' + u' * u' + v' * v') = 0 ∧ i' * q = i * q' ∧ i' * u = i * u' ∧ i' * v = i * v' := by
  have e := cs3 q u v q' u' v'
  have hdot : q * q' + u * u' + v * v' = i * i' := by omega
  rw [hdot] at e
  have n1 := sq_nn (q * u' - u * q')
  have n2 := sq_nn (q * v' - v * q')
  have n3 := sq_nn (u * v' - v * u')
  have n4 := sq_nn q
  have n5 := sq_nn u
  have n6 := sq_nn v
  have n7 := sq_nn q'
  have n8 := sq_nn u'
  have n9 := sq_nn v'
  have hii := Int.mul_pos i0 i0
  have hii' := Int.mul_pos i0' i0'
  have e3 : (i * i') * (i * i') = (i * i) * (i' * i') := by grind
  have hA : q * q + u * u + v * v ≤ i * i := by omega
  have hB : q' * q' + u' * u' + v' * v' ≤ i' * i' := by omega
  have l1 : (q * q + u * u + v * v) * (q' * q' + u' * u' + v' * v') ≤ (q * q + u * u + v * v) * (i' * i') := Int.mul_le_mul_of_nonneg_left hB (by omega)
  have l2 : (q * q + u * u + v * v) * (i' * i') ≤ (i * i) * (i' * i') := Int.mul_le_mul_of_nonneg_right hA (by omega)
  have f1 : q * q + u * u + v * v = i * i := by
    have : (q * q + u * u + v * v) * (i' * i') = (i * i) * (i' * i') := by omega
    exact Int.eq_of_mul_eq_mul_right (Int.ne_of_gt hii') this
  have f2 : q' * q' + u' * u' + v' * v' = i' * i' := by
    have l3 : (q * q + u * u + v * v) * (q' * q' + u' * u' + v' * v') ≤ (i * i) * (q' * q' + u' * u' + v' * v') := Int.mul_le_mul_of_nonneg_right hA (by omega)
    have l4 : (i * i) * (q' * q' + u' * u' + v' * v') ≤ (i * i) * (i' * i') := Int.mul_le_mul_of_nonneg_left hB (by omega)
    have : (i * i) * (q' * q' + u' * u' + v' * v') = (i * i) * (i' * i') := by omega
    exact Int.eq_of_mul_eq_mul_left (Int.ne_of_gt hii) this
  have z1 : q * u' - u * q' = 0 := sq_z (by omega)
  have z2 : q * v' - v * q' = 0 := sq_z (by omega)
  have z3 : u * v' - v * u' = 0 := sq_z (by omega)
  refine ⟨by omega, by omega, ?_, ?_, ?_⟩
  · refine Int.eq_of_mul_eq_mul_left (Int.ne_of_gt i0) ?_
    grind
  · refine Int.eq_of_mul_eq_mul_left (Int.ne_of_gt i0) ?_
    grind
  · refine Int.eq_of_mul_eq_mul_left (Int.ne_of_gt i0) ?_
    grind
/-- kinds that are told alike: along one line -/
theorem red4_par {a b c d a' b' c' d' : Int} (hd : 0 < d) (hd' : 0 < d') : red [a, b, c, d] = red [a', b', c', d'] ↔ d' * a = d * a' ∧ d' * b = d * b' ∧ d' * c = d * c' := by
  constructor
  · intro h
    have h1 := mL_pos [a, b, c, d]
    have h2 := mL_pos [a', b', c', d']
    have e1 := div_mul (v := [a, b, c, d]) (x := a) (by simp)
    have e2 := div_mul (v := [a, b, c, d]) (x := b) (by simp)
    have e3 := div_mul (v := [a, b, c, d]) (x := c) (by simp)
    have e4 := div_mul (v := [a, b, c, d]) (x := d) (by simp)
    have g1 := div_mul (v := [a', b', c', d']) (x := a') (by simp)
    have g2 := div_mul (v := [a', b', c', d']) (x := b') (by simp)
    have g3 := div_mul (v := [a', b', c', d']) (x := c') (by simp)
    have g4 := div_mul (v := [a', b', c', d']) (x := d') (by simp)
    simp only [red, List.map_cons, List.map_nil, List.cons.injEq, and_true] at h
    obtain ⟨f1, f2, f3, f4⟩ := h
    rw [← f1] at g1
    rw [← f2] at g2
    rw [← f3] at g3
    rw [← f4] at g4
    generalize mL [a, b, c, d] = M at *
    generalize mL [a', b', c', d'] = M' at *
    generalize a / M = x at *
    generalize b / M = y at *
    generalize c / M = z at *
    generalize d / M = w at *
    subst e1 e2 e3 e4 g1 g2 g3 g4
    refine ⟨?_, ?_, ?_⟩ <;> grind
  · rintro ⟨h1, h2, h3⟩
    refine red_par hd' hd ?_
    simp only [List.map_cons, List.map_nil, h1, h2, h3, Int.mul_comm d' d]
end
/-! two lights, checked -/
section
variable {i q u v n i' q' u' v' n' : Int}
theorem rg_zero {p r : Int} (hr : 0 < r) : (p / rg p r == 0) = (p == 0) := by
  have h := rg_p (p := p) hr
  have hg := rg_pos (p := p) hr
  by_cases hp : p = 0
  · subst hp; simp
  · have : p / rg p r ≠ 0 := fun z => hp (by rw [← h, z, Int.zero_mul])
    rw [beq_eq_false_iff_ne.mpr this, beq_eq_false_iff_ne.mpr hp]
theorem pair_facts (h : Lt 60 i q u v n) (g : Lt 60 i' q' u' v' n') : ∃ t1 t2 : PyData,
    F_added [.dat (T5 i' q' u' v' n'), .dat (T5 i q u v n)] [] = some (.dat (R5 (n' * i + n * i') (n' * q + n * q') (n' * u + n * u') (n' * v + n * v') (n * n')), []) ∧
    F__law_sum [.dat (T5 i q u v n), .dat (T5 i' q' u' v' n')] [] = some (.dat (R5 (n' * i + n * i') (n' * q + n * q') (n' * u + n * u') (n' * v + n * v') (n * n')), []) ∧
    F_product [.dat (T5 i' q' u' v' n'), .dat (T5 i q u v n)] [] = some (.dat (Rt (i * i' - (q * q' + u * u' + v * v')) (n * n')), []) ∧
    F__law_is_shine [.dat (R5 (n' * i + n * i') (n' * q + n * q') (n' * u + n * u') (n' * v + n * v') (n * n'))] [] = some (.dat (.bool true), []) ∧
    Rep (.list [R5 (n' * i + n * i') (n' * q + n * q') (n' * u + n * u') (n' * v + n * v') (n * n'), R5 (n' * i + n * i') (n' * q + n * q') (n' * u + n * u') (n' * v + n * v') (n * n')]) t1 ∧
    Rep (.list [Rt (i * i' - (q * q' + u * u' + v * v')) (n * n'), Rt (i * i' - (q * q' + u * u' + v * v')) (n * n')]) t2 := by
  have hA := lt_added h g
  have e1 := e_added (g.up (by decide : 60 ≤ 1000)) (h.up (by decide : 60 ≤ 1000))
  have e2 := e_lsum (h.up (by decide : 60 ≤ 300)) (g.up (by decide : 60 ≤ 300))
  have e3 := e_product (g.up (by decide : 60 ≤ 1000)) (h.up (by decide : 60 ≤ 1000))
  obtain ⟨t1, r1⟩ := rep_l2 hA.nice hA.nice (by decide) (Nat.le_of_ble_eq_true rfl) (Nat.le_of_ble_eq_true rfl)
  have hF : Fr 300 ((i * i' - (q * q' + u * u' + v * v')) / rg (i * i' - (q * q' + u * u' + v * v')) (n * n')) ((n * n') / rg (i * i' - (q * q' + u * u' + v * v')) (n * n')) := by
    obtain ⟨i0, n0, hc, h1, si, sq, su, sv, sn⟩ := h
    obtain ⟨i0', n0', hc', h1', si', sq', su', sv', sn'⟩ := g
    exact rt_fr (Int.mul_pos n0 n0') (by (apply Sz.by; (repeat (first | assumption | exact sz_0 | exact sz_1 | exact sz_2 | exact sz_3 | exact sz_4 | exact sz_8 | exact Sz.of40 (by decide) | apply Sz.mul | apply Sz.add | apply Sz.sub | apply Sz.neg | apply Sz.div)); decide)) (by (apply Sz.by; (repeat (first | assumption | exact sz_0 | exact sz_1 | exact sz_2 | exact sz_3 | exact sz_4 | exact sz_8 | exact Sz.of40 (by decide) | apply Sz.mul | apply Sz.add | apply Sz.sub | apply Sz.neg | apply Sz.div)); decide))
  obtain ⟨t2, r2⟩ := rep_l2 hF.nice hF.nice (by decide) (Nat.le_of_ble_eq_true rfl) (Nat.le_of_ble_eq_true rfl)
  refine ⟨t1, t2, ?_, ?_, ?_, e_lshine (hA.up (by decide)), r1, r2⟩
  · rw [e1]; exact congrArg (fun x => some (RV.dat x, ([] : Cs))) (R5c (by grind) (by grind) (by grind) (by grind) (by grind))
  · rw [e2]; exact congrArg (fun x => some (RV.dat x, ([] : Cs))) (R5c (by grind) (by grind) (by grind) (by grind) (by grind))
  · rw [e3]; exact congrArg (fun x => some (RV.dat x, ([] : Cs))) (Rtc (by grind) (by grind))
theorem e_pair (h : Lt 60 i q u v n) (g : Lt 60 i' q' u' v' n') : F__law_pair_right [.dat (T5 i q u v n), .dat (T5 i' q' u' v' n')] [] = some (.dat (.bool true), []) := by
  obtain ⟨t1, t2, e1, e2, e3, e4, r1, r2⟩ := pair_facts h g
  have a1 := e_added (h.up (by decide : 60 ≤ 1000)) (g.up (by decide : 60 ≤ 1000))
  have a2 := e_product (h.up (by decide : 60 ≤ 1000)) (g.up (by decide : 60 ≤ 1000))
  have a3 := e_linner (h.up (by decide : 60 ≤ 300)) (g.up (by decide : 60 ≤ 300))
  have hP := cauchy h.i0 g.i0 h.cone g.cone
  have hN := Int.mul_pos h.n0 g.n0
  have hz := rg_zero (p := i * i' - (q * q' + u * u' + v * v')) hN
  have hneg : ¬ ((i * i' - (q * q' + u * u' + v * v')) / rg (i * i' - (q * q' + u * u' + v * v')) (n * n') < 0) := by
    have := Int.ediv_nonneg hP (Int.le_of_lt (rg_pos (p := i * i' - (q * q' + u * u' + v * v')) hN))
    omega
  unfold Rt at a2 a3 e3 r2
  obtain ⟨r11, r12, r13⟩ := r1
  obtain ⟨r21, r22, r23⟩ := r2
  have hc := h.cone
  have hc' := g.cone
  have hi := h.i0
  have hi' := g.i0
  have kinds : ∃ k1 k2 : PyData, F_kind_of [.dat (T5 i q u v n)] [] = some (.dat k1, []) ∧ F_kind_of [.dat (T5 i' q' u' v' n')] [] = some (.dat k2, []) ∧
      ∃ b1 b2 : Bool, gNotN k1 .none = some (.bool b1) ∧ (b1 = true → gEq k1 k2 = some (.bool b2)) ∧ ((i * i' - (q * q' + u * u' + v * v') == 0) == ((i == 0) || ((i' == 0) || (b1 && b2)))) = true := by
    by_cases z : i = 0
    · subst z
      obtain ⟨rfl, rfl, rfl, rfl⟩ := lt_dark h
      by_cases p2 : i' ≠ 0 ∧ i' * i' - (q' * q' + u' * u' + v' * v') = 0
      · exact ⟨_, _, e_kindof_none (h.up (by decide : 60 ≤ 1000)) (.inl rfl), e_kindof (g.up (by decide : 60 ≤ 1000)) p2.1 p2.2, false, false, rfl, fun z => (by cases z), by simp⟩
      · exact ⟨_, _, e_kindof_none (h.up (by decide : 60 ≤ 1000)) (.inl rfl), e_kindof_none (g.up (by decide : 60 ≤ 1000)) (by omega), false, false, rfl, fun z => (by cases z), by simp⟩
    by_cases z' : i' = 0
    · subst z'
      obtain ⟨rfl, rfl, rfl, rfl⟩ := lt_dark g
      by_cases p1 : i * i - (q * q + u * u + v * v) = 0
      · exact ⟨_, _, e_kindof (h.up (by decide : 60 ≤ 1000)) z p1, e_kindof_none (g.up (by decide : 60 ≤ 1000)) (.inl rfl), true, false, rfl, fun _ => gEq_T4n .., by simp⟩
      · exact ⟨_, _, e_kindof_none (h.up (by decide : 60 ≤ 1000)) (by omega), e_kindof_none (g.up (by decide : 60 ≤ 1000)) (.inl rfl), false, false, rfl, fun z => (by cases z), by simp⟩
    have nz : (i == 0) = false := beq_eq_false_iff_ne.mpr z
    have nz' : (i' == 0) = false := beq_eq_false_iff_ne.mpr z'
    by_cases p1 : i * i - (q * q + u * u + v * v) = 0
    · have k1 := e_kindof (h.up (by decide : 60 ≤ 1000)) z p1
      by_cases p2 : i' * i' - (q' * q' + u' * u' + v' * v') = 0
      · have k2 := e_kindof (g.up (by decide : 60 ≤ 1000)) z' p2
        refine ⟨_, _, k1, k2, true, (red [q, u, v, i] == red [q', u', v', i']), rfl, fun _ => gEq_T4 .., ?_⟩
        rw [nz, nz']
        by_cases hp : i * i' - (q * q' + u * u' + v * v') = 0
        · obtain ⟨_, _, f1, f2, f3⟩ := prod_zero (by omega) (by omega) hc hc' hp
          have := (red4_par (a := q) (b := u) (c := v) (d := i) (a' := q') (b' := u') (c' := v') (d' := i') (by omega) (by omega)).mpr ⟨f1, f2, f3⟩
          rw [hp, this]; simp
        · have : ¬ (red [q, u, v, i] = red [q', u', v', i']) := fun z => by
            obtain ⟨f1, f2, f3⟩ := (red4_par (by omega) (by omega)).mp z
            apply hp
            refine Int.eq_of_mul_eq_mul_left (show i ≠ 0 by omega) ?_
            rw [Int.mul_zero]
            have e : i * (i * i' - (q * q' + u * u' + v * v')) = i' * (i * i) - (q * (i * q') + u * (i * u') + v * (i * v')) := by grind
            rw [e, ← f1, ← f2, ← f3]
            have e2 : i' * (i * i) - (q * (i' * q) + u * (i' * u) + v * (i' * v)) = i' * (i * i - (q * q + u * u + v * v)) := by grind
            rw [e2, p1, Int.mul_zero]
          rw [beq_eq_false_iff_ne.mpr hp, beq_eq_false_iff_ne.mpr this]; rfl
      · have hp : i * i' - (q * q' + u * u' + v * v') ≠ 0 := fun hp => p2 (prod_zero (by omega) (by omega) hc hc' hp).2.1
        exact ⟨_, _, k1, e_kindof_none (g.up (by decide : 60 ≤ 1000)) (by omega), true, false, rfl, fun _ => gEq_T4n .., by rw [nz, nz', beq_eq_false_iff_ne.mpr hp]; rfl⟩
    · have hp : i * i' - (q * q' + u * u' + v * v') ≠ 0 := fun hp => p1 (prod_zero (by omega) (by omega) hc hc' hp).1
      have k1 := e_kindof_none (h.up (by decide : 60 ≤ 1000)) (by omega)
      have fin : ((i * i' - (q * q' + u * u' + v * v') == 0) == ((i == 0) || ((i' == 0) || (false && false)))) = true := by rw [nz, nz', beq_eq_false_iff_ne.mpr hp]; rfl
      by_cases p2 : i' * i' - (q' * q' + u' * u' + v' * v') = 0
      · exact ⟨_, _, k1, e_kindof (g.up (by decide : 60 ≤ 1000)) z' p2, false, false, rfl, fun z => (by cases z), fin⟩
      · exact ⟨_, _, k1, e_kindof_none (g.up (by decide : 60 ≤ 1000)) (by omega), false, false, rfl, fun z => (by cases z), fin⟩
  obtain ⟨k1, k2, f1, f2, b1, b2, f3, f4, f5⟩ := kinds
  clear h g hc hc' hi hi' hP hN
  generalize hM : i * i' - (q * q' + u * u' + v * v') = P at *
  generalize P / rg P (n * n') = X at *
  generalize n * n' / rg P (n * n') = Y at *
  generalize R5 (n' * i + n * i') (n' * q + n * q') (n' * u + n * u') (n' * v + n * v') (n * n') = W at *
  clear hM
  cases hi0 : (i == 0)
  · cases hi1 : (i' == 0)
    · cases b1 with
      | false =>
        rw [hi0, hi1, Bool.false_or, Bool.false_or, Bool.false_and] at f5
        simp only [fZip, zipD, gSum, intsOf, List.foldl_cons, List.foldl_nil, mkF, fRet, fRetL, fRetN, fSkip, fSeq, fNever, fSet, fAsg, fNew, fIfS, fDrop, fPar, fPar3, fSetc, fSetc2, fVar, fLit, fOp, fUn, fTup, fTup.datsOf, fLst, fNilA, fConsA, fStarA, fCelA, fOfL, fTru, fAndT, fOrT, fNotT, fAndV, fOrV, fNotV, fIf, fBi, fCall, fCallL, fCallFr, fPerm, callF, celOf, celsOk, norm, aName, aNil, aCons, aTup, setD, fSl, fIt, fItL, fItT, fFor, forGo, fLc, lcGo, fYes, wipeD, fCix, fList, fSlL, fPart, fNoPart, fChain, List.length_cons, List.length_nil, List.getElem?_cons_zero, List.getElem?_cons_succ, List.getElem?_nil, List.set_cons_zero, List.set_cons_succ, List.map_cons, List.map_nil, List.cons_append, List.nil_append, List.append_nil, List.replicate, List.take_zero, List.take_nil, List.take_succ_cons, ↓bsome, ↓msome, Option.bind_some, Option.map_some, Option.bind_none, Option.map_none, Nat.sub_self, Int.cast_ofNat_Int, Nat.reduceAdd, Nat.reduceMul, Nat.reduceSub, Nat.reduceLeDiff, Nat.reduceLT, Nat.zero_add, Nat.add_zero, and_self, and_true, true_and, if_true, if_false, ↓reduceIte, ite_true, Bool.true_eq_false, Bool.false_eq_true, beq_self_eq_true, Bool.and_self, Bool.not_true, Bool.not_false, decide_true, decide_false, gLen, gTyIs, gTyNot, tyOf, gNeg, gPlus, DL.gSub, gCmp, gInt, gAbs, gTuple, gMax, gMin, gGcd, LIM, gIx, F__law_pair_right, b__law_pair_right, fRep, rng2, tn2, List.flatten_cons, List.flatten_nil, a1, a2, a3, e1, e2, e3, e4, r11, r12, r13, r21, r22, r23, hneg, f1, f2, gIx, ix5_0, ix2_0, gEq_int, f3, hi0, hi1, hz, gEq_bool, f5]
      | true =>
        have f4' := f4 rfl
        rw [hi0, hi1, Bool.false_or, Bool.false_or, Bool.true_and] at f5
        simp only [fZip, zipD, gSum, intsOf, List.foldl_cons, List.foldl_nil, mkF, fRet, fRetL, fRetN, fSkip, fSeq, fNever, fSet, fAsg, fNew, fIfS, fDrop, fPar, fPar3, fSetc, fSetc2, fVar, fLit, fOp, fUn, fTup, fTup.datsOf, fLst, fNilA, fConsA, fStarA, fCelA, fOfL, fTru, fAndT, fOrT, fNotT, fAndV, fOrV, fNotV, fIf, fBi, fCall, fCallL, fCallFr, fPerm, callF, celOf, celsOk, norm, aName, aNil, aCons, aTup, setD, fSl, fIt, fItL, fItT, fFor, forGo, fLc, lcGo, fYes, wipeD, fCix, fList, fSlL, fPart, fNoPart, fChain, List.length_cons, List.length_nil, List.getElem?_cons_zero, List.getElem?_cons_succ, List.getElem?_nil, List.set_cons_zero, List.set_cons_succ, List.map_cons, List.map_nil, List.cons_append, List.nil_append, List.append_nil, List.replicate, List.take_zero, List.take_nil, List.take_succ_cons, ↓bsome, ↓msome, Option.bind_some, Option.map_some, Option.bind_none, Option.map_none, Nat.sub_self, Int.cast_ofNat_Int, Nat.reduceAdd, Nat.reduceMul, Nat.reduceSub, Nat.reduceLeDiff, Nat.reduceLT, Nat.zero_add, Nat.add_zero, and_self, and_true, true_and, if_true, if_false, ↓reduceIte, ite_true, Bool.true_eq_false, Bool.false_eq_true, beq_self_eq_true, Bool.and_self, Bool.not_true, Bool.not_false, decide_true, decide_false, gLen, gTyIs, gTyNot, tyOf, gNeg, gPlus, DL.gSub, gCmp, gInt, gAbs, gTuple, gMax, gMin, gGcd, LIM, gIx, F__law_pair_right, b__law_pair_right, fRep, rng2, tn2, List.flatten_cons, List.flatten_nil, a1, a2, a3, e1, e2, e3, e4, r11, r12, r13, r21, r22, r23, hneg, f1, f2, gIx, ix5_0, ix2_0, ix2_1, gEq_int, f3, f4', hi0, hi1, hz, gEq_bool, f5]
    · rw [hi0, hi1, Bool.false_or, Bool.true_or] at f5
      simp only [fZip, zipD, gSum, intsOf, List.foldl_cons, List.foldl_nil, mkF, fRet, fRetL, fRetN, fSkip, fSeq, fNever, fSet, fAsg, fNew, fIfS, fDrop, fPar, fPar3, fSetc, fSetc2, fVar, fLit, fOp, fUn, fTup, fTup.datsOf, fLst, fNilA, fConsA, fStarA, fCelA, fOfL, fTru, fAndT, fOrT, fNotT, fAndV, fOrV, fNotV, fIf, fBi, fCall, fCallL, fCallFr, fPerm, callF, celOf, celsOk, norm, aName, aNil, aCons, aTup, setD, fSl, fIt, fItL, fItT, fFor, forGo, fLc, lcGo, fYes, wipeD, fCix, fList, fSlL, fPart, fNoPart, fChain, List.length_cons, List.length_nil, List.getElem?_cons_zero, List.getElem?_cons_succ, List.getElem?_nil, List.set_cons_zero, List.set_cons_succ, List.map_cons, List.map_nil, List.cons_append, List.nil_append, List.append_nil, List.replicate, List.take_zero, List.take_nil, List.take_succ_cons, ↓bsome, ↓msome, Option.bind_some, Option.map_some, Option.bind_none, Option.map_none, Nat.sub_self, Int.cast_ofNat_Int, Nat.reduceAdd, Nat.reduceMul, Nat.reduceSub, Nat.reduceLeDiff, Nat.reduceLT, Nat.zero_add, Nat.add_zero, and_self, and_true, true_and, if_true, if_false, ↓reduceIte, ite_true, Bool.true_eq_false, Bool.false_eq_true, beq_self_eq_true, Bool.and_self, Bool.not_true, Bool.not_false, decide_true, decide_false, gLen, gTyIs, gTyNot, tyOf, gNeg, gPlus, DL.gSub, gCmp, gInt, gAbs, gTuple, gMax, gMin, gGcd, LIM, gIx, F__law_pair_right, b__law_pair_right, fRep, rng2, tn2, List.flatten_cons, List.flatten_nil, a1, a2, a3, e1, e2, e3, e4, r11, r12, r13, r21, r22, r23, hneg, f1, f2, gIx, ix5_0, ix2_0, gEq_int, hi0, hi1, hz, gEq_bool, f5]
  · rw [hi0, Bool.true_or] at f5
    simp only [fZip, zipD, gSum, intsOf, List.foldl_cons, List.foldl_nil, mkF, fRet, fRetL, fRetN, fSkip, fSeq, fNever, fSet, fAsg, fNew, fIfS, fDrop, fPar, fPar3, fSetc, fSetc2, fVar, fLit, fOp, fUn, fTup, fTup.datsOf, fLst, fNilA, fConsA, fStarA, fCelA, fOfL, fTru, fAndT, fOrT, fNotT, fAndV, fOrV, fNotV, fIf, fBi, fCall, fCallL, fCallFr, fPerm, callF, celOf, celsOk, norm, aName, aNil, aCons, aTup, setD, fSl, fIt, fItL, fItT, fFor, forGo, fLc, lcGo, fYes, wipeD, fCix, fList, fSlL, fPart, fNoPart, fChain, List.length_cons, List.length_nil, List.getElem?_cons_zero, List.getElem?_cons_succ, List.getElem?_nil, List.set_cons_zero, List.set_cons_succ, List.map_cons, List.map_nil, List.cons_append, List.nil_append, List.append_nil, List.replicate, List.take_zero, List.take_nil, List.take_succ_cons, ↓bsome, ↓msome, Option.bind_some, Option.map_some, Option.bind_none, Option.map_none, Nat.sub_self, Int.cast_ofNat_Int, Nat.reduceAdd, Nat.reduceMul, Nat.reduceSub, Nat.reduceLeDiff, Nat.reduceLT, Nat.zero_add, Nat.add_zero, and_self, and_true, true_and, if_true, if_false, ↓reduceIte, ite_true, Bool.true_eq_false, Bool.false_eq_true, beq_self_eq_true, Bool.and_self, Bool.not_true, Bool.not_false, decide_true, decide_false, gLen, gTyIs, gTyNot, tyOf, gNeg, gPlus, DL.gSub, gCmp, gInt, gAbs, gTuple, gMax, gMin, gGcd, LIM, gIx, F__law_pair_right, b__law_pair_right, fRep, rng2, tn2, List.flatten_cons, List.flatten_nil, a1, a2, a3, e1, e2, e3, e4, r11, r12, r13, r21, r22, r23, hneg, f1, f2, gIx, ix5_0, ix2_0, gEq_int, hi0, hz, gEq_bool, f5]
end
end PL


set_option Elab.async false
set_option linter.all false
set_option maxRecDepth 100000
set_option maxHeartbeats 1000000
set_option exponentiation.threshold 20000
namespace PL
open PySem PySem.Spec L2 DL
theorem R4_red {a b c d a' b' c' d' : Int} (h : red [a, b, c, d] = red [a', b', c', d']) : R4 a b c d = R4 a' b' c' d' := congrArg (fun v => PyData.tuple (v.map PyData.int)) h
theorem R5_red {a b c d e a' b' c' d' e' : Int} (h : red [a, b, c, d, e] = red [a', b', c', d', e']) : R5 a b c d e = R5 a' b' c' d' e' := congrArg (fun v => PyData.tuple (v.map PyData.int)) h
theorem R5_one {a b c d e : Int} (h : gL [a, b, c, d, e] = 1) : R5 a b c d e = T5 a b c d e := congrArg (fun v => PyData.tuple (v.map PyData.int)) (red_of_one h)
theorem gL_last {n : Int} (h : 0 < n) : gL [0, 0, 0, 0, n] = n.natAbs := by
  simp only [gL, Int.natAbs_zero, Nat.gcd_zero_left, Nat.gcd_zero_right]
theorem R5_dark {n : Int} (h : 0 < n) : R5 0 0 0 0 n = T5 0 0 0 0 1 := by
  have e : mL [0, 0, 0, 0, n] = n := by
    rw [mL_eq (by rw [gL_last h]; omega), gL_last h]; omega
  unfold R5
  rw [e, Int.zero_ediv, Int.ediv_self (by omega)]
/-! fractions as numbers -/
def IsQ (p q P Q : Int) : Prop := p * Q = P * q
theorem isq_rt {p q : Int} (hq : 0 < q) : IsQ (p / rg p q) (q / rg p q) p q := by
  have h1 := rg_p (p := p) hq
  have h2 := rg_q (p := p) hq
  unfold IsQ
  generalize p / rg p q = x at *
  generalize q / rg p q = y at *
  generalize rg p q = g at *
  subst h1 h2
  grind
theorem IsQ.add {p q P Q p' q' P' Q' : Int} (h : IsQ p q P Q) (g : IsQ p' q' P' Q') : IsQ (p * q' + p' * q) (q * q') (P * Q' + P' * Q) (Q * Q') := by
  unfold IsQ at *
  grind
theorem IsQ.mul {p q P Q p' q' P' Q' : Int} (h : IsQ p q P Q) (g : IsQ p' q' P' Q') : IsQ (p * p') (q * q') (P * P') (Q * Q') := by
  unfold IsQ at *
  grind
theorem IsQ.rt {p q P Q : Int} (h : IsQ p q P Q) (hq : 0 < q) (hQ : 0 < Q) : Rt p q = Rt P Q := rt_eq hq hQ h
/-! a light times a share, checked -/
section
variable {m : Nat} {i q u v n p r : Int}
theorem lt_times (h : Lt m i q u v n) {k : Nat} (g : Fr k p r) (p0 : 0 ≤ p) : Lt (m + k) ((p * i) / mL [p * i, p * q, p * u, p * v, r * n]) ((p * q) / mL [p * i, p * q, p * u, p * v, r * n]) ((p * u) / mL [p * i, p * q, p * u, p * v, r * n]) ((p * v) / mL [p * i, p * q, p * u, p * v, r * n]) ((r * n) / mL [p * i, p * q, p * u, p * v, r * n]) := by
  obtain ⟨i0, n0, hc, h1, si, sq, su, sv, sn⟩ := h
  obtain ⟨r0, o, sp, sr⟩ := g
  have z : ∀ x, Sz m x → Sz (m + k) (p * x) := fun x s => (sp.mul s).by _ (by omega)
  refine lt_R5 (Int.mul_nonneg p0 i0) (Int.mul_pos r0 n0) ?_ (z _ si) (z _ sq) (z _ su) (z _ sv) ((sr.mul sn).by _ (by omega))
  have : p * i * (p * i) - (p * q * (p * q) + p * u * (p * u) + p * v * (p * v)) = p * p * (i * i - (q * q + u * u + v * v)) := by grind
  rw [this]
  exact Int.mul_nonneg (sq_nn p) hc
theorem e_timesr (h : Lt 60 i q u v n) (g : Fr 40 p r) (p0 : 0 ≤ p) : F__law_times_right [.dat (T5 i q u v n), .dat (T2 p r)] [] = some (.dat (.bool true), []) := by
  have e1 := e_times (h.up (by decide : 60 ≤ 1000)) ⟨g.q0, g.one, g.sp.by _ (by decide), g.sq.by _ (by decide)⟩ p0
  have hT := lt_times h g p0
  have e2 : F__law_is_shine [.dat (R5 (p * i) (p * q) (p * u) (p * v) (r * n))] [] = some (.dat (.bool true), []) := e_lshine (hT.up (by decide : 100 ≤ 1400))
  have e3 : F__law_least [.dat (L5 (p * i) (p * q) (p * u) (p * v) (r * n))] [] = some (.dat (R5 (p * i) (p * q) (p * u) (p * v) (r * n)), []) := by
    obtain ⟨i0, n0, hc, h1, si, sq, su, sv, sn⟩ := h
    obtain ⟨r0, o, sp, sr⟩ := g
    have f : ∀ x y : Int, Sz 40 x → Sz 60 y → Sm 1400 (x * y) := fun x y a b => (a.mul b).sm
    exact e_lll5 (f _ _ sp si) (f _ _ sp sq) (f _ _ sp su) (f _ _ sp sv) (f _ _ sr sn)
  have hr1 : ∃ t1, Rep (.list [(R5 (p * i) (p * q) (p * u) (p * v) (r * n)), (R5 (p * i) (p * q) (p * u) (p * v) (r * n))]) t1 := rep_l2 hT.nice hT.nice (by decide) (Nat.le_of_ble_eq_true rfl) (Nat.le_of_ble_eq_true rfl)
  obtain ⟨t1, r1⟩ := hr1
  have m0 : gMul (.int p) (.int i) = some (.int (p * i)) := gMul_ok g.sp.sm h.si.sm
  have m1 : gMul (.int p) (.int q) = some (.int (p * q)) := gMul_ok g.sp.sm h.sq.sm
  have m2 : gMul (.int p) (.int u) = some (.int (p * u)) := gMul_ok g.sp.sm h.su.sm
  have m3 : gMul (.int p) (.int v) = some (.int (p * v)) := gMul_ok g.sp.sm h.sv.sm
  have m4 : gMul (.int r) (.int n) = some (.int (r * n)) := gMul_ok g.sq.sm h.sn.sm
  have hn := h.n0
  have hr := g.q0
  by_cases hz : p = 0 ∨ i = 0
  · have ed : R5 (p * i) (p * q) (p * u) (p * v) (r * n) = T5 0 0 0 0 1 := by
      rcases hz with rfl | rfl
      · simp only [Int.zero_mul]; exact R5_dark (Int.mul_pos hr hn)
      · obtain ⟨rfl, rfl, rfl, rfl⟩ := lt_dark h
        simp only [Int.mul_zero]; exact R5_dark (Int.mul_pos hr hn)
    rw [ed] at e1 e2 e3 r1
    obtain ⟨r11, r12, r13⟩ := r1
    have eq := gEq_T5 0 0 0 0 1 0 0 0 0 1
    have eq' : gEq (T5 0 0 0 0 1) (T5 0 0 0 0 1) = some (.bool true) := rfl
    by_cases hp : p = 0
    · have hp' : (p == 0) = true := beq_iff_eq.mpr hp
      clear hT h g hz ed
      simp only [fZip, zipD, gSum, intsOf, List.foldl_cons, List.foldl_nil, mkF, fRet, fRetL, fRetN, fSkip, fSeq, fNever, fSet, fAsg, fNew, fIfS, fDrop, fPar, fPar3, fSetc, fSetc2, fVar, fLit, fOp, fUn, fTup, fTup.datsOf, fLst, fNilA, fConsA, fStarA, fCelA, fOfL, fTru, fAndT, fOrT, fNotT, fAndV, fOrV, fNotV, fIf, fBi, fCall, fCallL, fCallFr, fPerm, callF, celOf, celsOk, norm, aName, aNil, aCons, aTup, setD, fSl, fIt, fItL, fItT, fFor, forGo, fLc, lcGo, fYes, wipeD, fCix, fList, fSlL, fPart, fNoPart, fChain, List.length_cons, List.length_nil, List.getElem?_cons_zero, List.getElem?_cons_succ, List.getElem?_nil, List.set_cons_zero, List.set_cons_succ, List.map_cons, List.map_nil, List.cons_append, List.nil_append, List.append_nil, List.replicate, List.take_zero, List.take_nil, List.take_succ_cons, ↓bsome, ↓msome, Option.bind_some, Option.map_some, Option.bind_none, Option.map_none, Nat.sub_self, Int.cast_ofNat_Int, Nat.reduceAdd, Nat.reduceMul, Nat.reduceSub, Nat.reduceLeDiff, Nat.reduceLT, Nat.zero_add, Nat.add_zero, and_self, and_true, true_and, if_true, if_false, ↓reduceIte, ite_true, Bool.true_eq_false, Bool.false_eq_true, beq_self_eq_true, Bool.and_self, Bool.not_true, Bool.not_false, decide_true, decide_false, gLen, gTyIs, gTyNot, tyOf, gNeg, gPlus, DL.gSub, gCmp, gInt, gAbs, gTuple, gMax, gMin, gGcd, LIM, gIx, F__law_times_right, b__law_times_right, fRep, rng2, tn2, List.flatten_cons, List.flatten_nil, e1, e2, e3, r11, r12, gIx, ix5_0, ix5_4, ix2_0, ix2_1, cut5_04, m0, m1, m2, m3, m4, gEq_int, hp', eq']
    · have hp' : (p == 0) = false := beq_eq_false_iff_ne.mpr hp
      have hi' : (i == 0) = true := beq_iff_eq.mpr (by rcases hz with h | h; exact absurd h hp; exact h)
      clear hT h g hz ed
      simp only [fZip, zipD, gSum, intsOf, List.foldl_cons, List.foldl_nil, mkF, fRet, fRetL, fRetN, fSkip, fSeq, fNever, fSet, fAsg, fNew, fIfS, fDrop, fPar, fPar3, fSetc, fSetc2, fVar, fLit, fOp, fUn, fTup, fTup.datsOf, fLst, fNilA, fConsA, fStarA, fCelA, fOfL, fTru, fAndT, fOrT, fNotT, fAndV, fOrV, fNotV, fIf, fBi, fCall, fCallL, fCallFr, fPerm, callF, celOf, celsOk, norm, aName, aNil, aCons, aTup, setD, fSl, fIt, fItL, fItT, fFor, forGo, fLc, lcGo, fYes, wipeD, fCix, fList, fSlL, fPart, fNoPart, fChain, List.length_cons, List.length_nil, List.getElem?_cons_zero, List.getElem?_cons_succ, List.getElem?_nil, List.set_cons_zero, List.set_cons_succ, List.map_cons, List.map_nil, List.cons_append, List.nil_append, List.append_nil, List.replicate, List.take_zero, List.take_nil, List.take_succ_cons, ↓bsome, ↓msome, Option.bind_some, Option.map_some, Option.bind_none, Option.map_none, Nat.sub_self, Int.cast_ofNat_Int, Nat.reduceAdd, Nat.reduceMul, Nat.reduceSub, Nat.reduceLeDiff, Nat.reduceLT, Nat.zero_add, Nat.add_zero, and_self, and_true, true_and, if_true, if_false, ↓reduceIte, ite_true, Bool.true_eq_false, Bool.false_eq_true, beq_self_eq_true, Bool.and_self, Bool.not_true, Bool.not_false, decide_true, decide_false, gLen, gTyIs, gTyNot, tyOf, gNeg, gPlus, DL.gSub, gCmp, gInt, gAbs, gTuple, gMax, gMin, gGcd, LIM, gIx, F__law_times_right, b__law_times_right, fRep, rng2, tn2, List.flatten_cons, List.flatten_nil, e1, e2, e3, r11, r12, gIx, ix5_0, ix5_4, ix2_0, ix2_1, cut5_04, m0, m1, m2, m3, m4, gEq_int, hp', hi', eq']
  · have hp : p ≠ 0 := fun z => hz (.inl z)
    have hi : i ≠ 0 := fun z => hz (.inr z)
    have hp' : (p == 0) = false := beq_eq_false_iff_ne.mpr hp
    have hi' : (i == 0) = false := beq_eq_false_iff_ne.mpr hi
    have hM := mL_pos [p * i, p * q, p * u, p * v, r * n]
    have d1 := div_mul (v := [p * i, p * q, p * u, p * v, r * n]) (x := p * i) (by simp)
    have d2 := div_mul (v := [p * i, p * q, p * u, p * v, r * n]) (x := p * q) (by simp)
    have d3 := div_mul (v := [p * i, p * q, p * u, p * v, r * n]) (x := p * u) (by simp)
    have d4 := div_mul (v := [p * i, p * q, p * u, p * v, r * n]) (x := p * v) (by simp)
    unfold R5 at e1 e2 e3 r1
    generalize mL [p * i, p * q, p * u, p * v, r * n] = M at *
    generalize p * i / M = I, p * q / M = Q, p * u / M = U, p * v / M = V, r * n / M = N at *
    have hI : I ≠ 0 := fun z => by
      rw [z, Int.zero_mul] at d1
      rcases Int.mul_eq_zero.mp d1 with h | h
      · exact hp h
      · exact hi h
    have hcone : M * M * (I * I - (Q * Q + U * U + V * V)) = p * p * (i * i - (q * q + u * u + v * v)) := by
      have e : M * M * (I * I - (Q * Q + U * U + V * V)) = (I * M) * (I * M) - ((Q * M) * (Q * M) + (U * M) * (U * M) + (V * M) * (V * M)) := by grind
      rw [e, ← d1, ← d2, ← d3, ← d4]; grind
    have hMM := Int.mul_pos hM hM
    have hpp : p * p ≠ 0 := fun z => hp (sq_z z)
    have ep : F_purity [.dat (T5 I Q U V N)] [] = some (.dat (Rt (q * q + u * u + v * v) (i * i)), []) := by
      rw [e_purity (hT.up (by decide)) hI]
      refine congrArg (fun x => some (RV.dat x, ([] : Cs))) (rt_eq ?_ ?_ ?_)
      · have := sq_nn I
        have : I * I ≠ 0 := fun z => hI (sq_z z)
        omega
      · have := sq_nn i
        have : i * i ≠ 0 := fun z => hi (sq_z z)
        omega
      · refine Int.eq_of_mul_eq_mul_left (Int.ne_of_gt hMM) ?_
        have e : M * M * ((Q * Q + U * U + V * V) * (i * i)) = ((Q * M) * (Q * M) + (U * M) * (U * M) + (V * M) * (V * M)) * (i * i) := by grind
        have e' : M * M * ((q * q + u * u + v * v) * (I * I)) = (q * q + u * u + v * v) * ((I * M) * (I * M)) := by grind
        rw [e, e', ← d1, ← d2, ← d3, ← d4]; grind
    have ep' := e_purity (h.up (by decide : 60 ≤ 1000)) hi
    have hF : Fr 300 ((q * q + u * u + v * v) / rg (q * q + u * u + v * v) (i * i)) ((i * i) / rg (q * q + u * u + v * v) (i * i)) := by
      obtain ⟨i0, n0, hc, h1, si, sq, su, sv, sn⟩ := h
      exact rt_fr (by
        have := sq_nn i
        have : i * i ≠ 0 := fun z => hi (sq_z z)
        omega) (by (apply Sz.by; (repeat (first | assumption | exact sz_0 | exact sz_1 | exact sz_2 | exact sz_3 | exact sz_4 | exact sz_8 | exact Sz.of40 (by decide) | apply Sz.mul | apply Sz.add | apply Sz.sub | apply Sz.neg | apply Sz.div)); decide)) (by (apply Sz.by; (repeat (first | assumption | exact sz_0 | exact sz_1 | exact sz_2 | exact sz_3 | exact sz_4 | exact sz_8 | exact Sz.of40 (by decide) | apply Sz.mul | apply Sz.add | apply Sz.sub | apply Sz.neg | apply Sz.div)); decide))
    obtain ⟨r11, r12, r13⟩ := r1
    by_cases hc : i * i - (q * q + u * u + v * v) = 0
    · have hc' : I * I - (Q * Q + U * U + V * V) = 0 := by
        rw [hc, Int.mul_zero] at hcone
        rcases Int.mul_eq_zero.mp hcone with z | z
        · omega
        · exact z
      have k1 : F_kind_of [.dat (T5 I Q U V N)] [] = some (.dat (R4 q u v i), []) := by
        rw [e_kindof (hT.up (by decide)) hI hc']
        have hpos : 0 < p := by omega
        refine congrArg (fun x => some (RV.dat x, ([] : Cs))) (R4_red (red_par hM hpos ?_))
        simp only [List.map_cons, List.map_nil, d1, d2, d3, d4, Int.mul_comm]
      have k2 := e_kindof (h.up (by decide : 60 ≤ 1000)) hi hc
      have hK := kd_R4 (m := 60) (q := q) (u := u) (v := v) (n := i) (by have := h.i0; omega) (by omega) h.sq h.su h.sv h.si
      obtain ⟨t2, r2⟩ := rep_l2 (Nice.up (by decide : 60 ≤ 300) _ hK.nice) hF.nice (by decide) (Nat.le_of_ble_eq_true rfl) (Nat.le_of_ble_eq_true rfl)
      obtain ⟨r21, r22, r23⟩ := r2
      unfold R4 at k1 k2
      unfold Rt at ep ep'
      clear hT h g hz hF hK d1 d2 d3 d4
      simp only [fZip, zipD, gSum, intsOf, List.foldl_cons, List.foldl_nil, mkF, fRet, fRetL, fRetN, fSkip, fSeq, fNever, fSet, fAsg, fNew, fIfS, fDrop, fPar, fPar3, fSetc, fSetc2, fVar, fLit, fOp, fUn, fTup, fTup.datsOf, fLst, fNilA, fConsA, fStarA, fCelA, fOfL, fTru, fAndT, fOrT, fNotT, fAndV, fOrV, fNotV, fIf, fBi, fCall, fCallL, fCallFr, fPerm, callF, celOf, celsOk, norm, aName, aNil, aCons, aTup, setD, fSl, fIt, fItL, fItT, fFor, forGo, fLc, lcGo, fYes, wipeD, fCix, fList, fSlL, fPart, fNoPart, fChain, List.length_cons, List.length_nil, List.getElem?_cons_zero, List.getElem?_cons_succ, List.getElem?_nil, List.set_cons_zero, List.set_cons_succ, List.map_cons, List.map_nil, List.cons_append, List.nil_append, List.append_nil, List.replicate, List.take_zero, List.take_nil, List.take_succ_cons, ↓bsome, ↓msome, Option.bind_some, Option.map_some, Option.bind_none, Option.map_none, Nat.sub_self, Int.cast_ofNat_Int, Nat.reduceAdd, Nat.reduceMul, Nat.reduceSub, Nat.reduceLeDiff, Nat.reduceLT, Nat.zero_add, Nat.add_zero, and_self, and_true, true_and, if_true, if_false, ↓reduceIte, ite_true, Bool.true_eq_false, Bool.false_eq_true, beq_self_eq_true, Bool.and_self, Bool.not_true, Bool.not_false, decide_true, decide_false, gLen, gTyIs, gTyNot, tyOf, gNeg, gPlus, DL.gSub, gCmp, gInt, gAbs, gTuple, gMax, gMin, gGcd, LIM, gIx, F__law_times_right, b__law_times_right, fRep, rng2, tn2, List.flatten_cons, List.flatten_nil, e1, e2, e3, r11, r12, gIx, ix5_0, ix5_4, ix2_0, ix2_1, cut5_04, m0, m1, m2, m3, m4, gEq_int, hp', hi', k1, k2, ep, ep', r21, r23]
    · have hc' : I * I - (Q * Q + U * U + V * V) ≠ 0 := fun z => by
        rw [z, Int.mul_zero] at hcone
        rcases Int.mul_eq_zero.mp hcone.symm with z | z
        · exact hpp z
        · exact hc z
      have k1 := e_kindof_none (hT.up (by decide : 100 ≤ 1000)) (.inr (by have := hT.cone; omega))
      have k2 := e_kindof_none (h.up (by decide : 60 ≤ 1000)) (.inr (by have := h.cone; omega))
      obtain ⟨t2, r2⟩ := rep_l2 (n := 300) nice_none hF.nice (by decide) (Nat.le_of_ble_eq_true rfl) (Nat.le_of_ble_eq_true rfl)
      obtain ⟨r21, r22, r23⟩ := r2
      unfold Rt at ep ep'
      clear hT h g hz hF d1 d2 d3 d4
      simp only [fZip, zipD, gSum, intsOf, List.foldl_cons, List.foldl_nil, mkF, fRet, fRetL, fRetN, fSkip, fSeq, fNever, fSet, fAsg, fNew, fIfS, fDrop, fPar, fPar3, fSetc, fSetc2, fVar, fLit, fOp, fUn, fTup, fTup.datsOf, fLst, fNilA, fConsA, fStarA, fCelA, fOfL, fTru, fAndT, fOrT, fNotT, fAndV, fOrV, fNotV, fIf, fBi, fCall, fCallL, fCallFr, fPerm, callF, celOf, celsOk, norm, aName, aNil, aCons, aTup, setD, fSl, fIt, fItL, fItT, fFor, forGo, fLc, lcGo, fYes, wipeD, fCix, fList, fSlL, fPart, fNoPart, fChain, List.length_cons, List.length_nil, List.getElem?_cons_zero, List.getElem?_cons_succ, List.getElem?_nil, List.set_cons_zero, List.set_cons_succ, List.map_cons, List.map_nil, List.cons_append, List.nil_append, List.append_nil, List.replicate, List.take_zero, List.take_nil, List.take_succ_cons, ↓bsome, ↓msome, Option.bind_some, Option.map_some, Option.bind_none, Option.map_none, Nat.sub_self, Int.cast_ofNat_Int, Nat.reduceAdd, Nat.reduceMul, Nat.reduceSub, Nat.reduceLeDiff, Nat.reduceLT, Nat.zero_add, Nat.add_zero, and_self, and_true, true_and, if_true, if_false, ↓reduceIte, ite_true, Bool.true_eq_false, Bool.false_eq_true, beq_self_eq_true, Bool.and_self, Bool.not_true, Bool.not_false, decide_true, decide_false, gLen, gTyIs, gTyNot, tyOf, gNeg, gPlus, DL.gSub, gCmp, gInt, gAbs, gTuple, gMax, gMin, gGcd, LIM, gIx, F__law_times_right, b__law_times_right, fRep, rng2, tn2, List.flatten_cons, List.flatten_nil, e1, e2, e3, r11, r12, gIx, ix5_0, ix5_4, ix2_0, ix2_1, cut5_04, m0, m1, m2, m3, m4, gEq_int, hp', hi', k1, k2, ep, ep', r21, r23]
end
end PL


set_option Elab.async false
set_option linter.all false
set_option maxRecDepth 100000
set_option maxHeartbeats 1000000
set_option exponentiation.threshold 20000
namespace PL
open PySem PySem.Spec L2 DL
theorem fn_ok {np nN n0 : Nat} {b : FS} {xs : List SV} {cs : Cs} {r : RV} {c c' : Cs} (h : b ⟨xs.map some ++ List.replicate (nN - np) none, cs⟩ = some (.rt r c)) (hl : xs.length = np ∧ cs.length = n0) (hc : c.take n0 = c') : mkF np nN n0 b xs cs = some (r, c') := by
  unfold mkF
  rw [if_pos hl, h, ← hc]
section
variable {m m' : Nat} {i q u v n i' q' u' v' n' : Int}
/-- the sum of two lights, and what it is a multiple of -/
theorem added_sp (h : Lt m i q u v n) (g : Lt m' i' q' u' v' n') (hm : m ≤ 1000 := by decide) (hm' : m' ≤ 1000 := by decide) : ∃ I Q U V N M : Int, F_added [.dat (T5 i q u v n), .dat (T5 i' q' u' v' n')] [] = some (.dat (T5 I Q U V N), []) ∧ Lt (m + m' + 1) I Q U V N ∧ 0 < M ∧
    n' * i + n * i' = I * M ∧ n' * q + n * q' = Q * M ∧ n' * u + n * u' = U * M ∧ n' * v + n * v' = V * M ∧ n * n' = N * M :=
  ⟨_, _, _, _, _, _, e_added (h.up hm) (g.up hm'), lt_added h g, mL_pos _, div_mul (by simp), div_mul (by simp), div_mul (by simp), div_mul (by simp), div_mul (by simp)⟩
theorem times_sp {k : Nat} {p r : Int} (h : Lt m i q u v n) (g : Fr k p r) (p0 : 0 ≤ p) (hm : m ≤ 1000 := by decide) (hm' : k ≤ 1000 := by decide) : ∃ I Q U V N M : Int, F_times [.dat (T5 i q u v n), .dat (T2 p r)] [] = some (.dat (T5 I Q U V N), []) ∧ Lt (m + k) I Q U V N ∧ 0 < M ∧
    p * i = I * M ∧ p * q = Q * M ∧ p * u = U * M ∧ p * v = V * M ∧ r * n = N * M :=
  ⟨_, _, _, _, _, _, e_times (h.up hm) ⟨g.q0, g.one, g.sp.by _ hm', g.sq.by _ hm'⟩ p0, lt_times h g p0, mL_pos _, div_mul (by simp), div_mul (by simp), div_mul (by simp), div_mul (by simp), div_mul (by simp)⟩
theorem Fr.up {a b : Nat} {p r : Int} (h : Fr a p r) (hb : a ≤ b) : Fr b p r := ⟨h.q0, h.one, h.sp.by _ hb, h.sq.by _ hb⟩
theorem fr_prod (h : Lt m i q u v n) (g : Lt m' i' q' u' v' n') : Fr (m + m' + 3) ((i * i' - (q * q' + u * u' + v * v')) / rg (i * i' - (q * q' + u * u' + v * v')) (n * n')) ((n * n') / rg (i * i' - (q * q' + u * u' + v * v')) (n * n')) := by
  obtain ⟨i0, n0, hc, h1, si, sq, su, sv, sn⟩ := h
  obtain ⟨i0', n0', hc', h1', si', sq', su', sv', sn'⟩ := g
  exact rt_fr (Int.mul_pos n0 n0') (((si.mul si').sub (((sq.mul sq').add (su.mul su')).add (sv.mul sv'))).by _ (by omega)) ((sn.mul sn').by _ (by omega))
theorem rep_R {n : Nat} {d : PyData} (h : Nice n d) (hn : n ≤ 1500 := by decide) (hb : d.bulk ≤ 500 := by exact Nat.le_of_ble_eq_true rfl) (hd : d.depth ≤ 60 := by exact Nat.le_of_ble_eq_true rfl) : ∃ t, Rep d t := rep_1 h hn hb hd
theorem Rt_zero {r : Int} (h : 0 < r) : Rt 0 r = T2 0 1 := by
  have e : rg 0 r = r := by
    unfold rg; rw [if_pos h, Int.natAbs_zero, Nat.gcd_zero_left]; omega
  unfold Rt
  rw [e, Int.zero_ediv, Int.ediv_self (by omega)]
theorem lt_kd (h : Kd m q u v n) : Lt m n q u v n := by
  obtain ⟨n0, hs, ho, sq, su, sv, sn⟩ := h
  refine ⟨Int.le_of_lt n0, n0, by omega, ?_, sn, sq, su, sv, sn⟩
  show Nat.gcd n.natAbs (gL [q, u, v, n]) = 1
  rw [ho, Nat.gcd_one_right]
theorem frac1 : Fr 40 1 1 := ⟨by decide, by decide, sz_1.by _ (by decide), sz_1.by _ (by decide)⟩
theorem frac0 : Fr 40 0 1 := ⟨by decide, by decide, sz_0.by _ (by decide), sz_1.by _ (by decide)⟩
theorem dark60 : Lt 60 0 0 0 0 1 := lt_dark0.up (by decide)
theorem Lk.up {a b : Nat} {x y z w : Int} (h : Lk a x y z w) (hb : a ≤ b) : Lk b x y z w := ⟨h.a0, h.cone, h.one, h.sa.by _ hb, h.sb.by _ hb, h.sc.by _ hb, h.sd.by _ hb⟩
end
/-! what sums and multiples make of products and levels -/
theorem as1 {M M' N N' n1 n2 n3 i1 i2 i3 I I' : Int} (b1 : n2 * i1 + n1 * i2 = I * M) (b5 : n1 * n2 = N * M) (d1 : n3 * i2 + n2 * i3 = I' * M') (d5 : n2 * n3 = N' * M') : M' * (N' * i1 + n1 * I') = M * (n3 * I + N * i3) := by
  have x1 : M' * (N' * i1 + n1 * I') = (N' * M') * i1 + n1 * (I' * M') := by grind
  have x2 : M * (n3 * I + N * i3) = n3 * (I * M) + (N * M) * i3 := by grind
  rw [x1, x2, ← b1, ← b5, ← d1, ← d5]
  grind
theorem as2 {M M' N N' n1 n2 n3 : Int} (b5 : n1 * n2 = N * M) (d5 : n2 * n3 = N' * M') : M' * (n1 * N') = M * (N * n3) := by
  have x1 : M' * (n1 * N') = n1 * (N' * M') := by grind
  have x2 : M * (N * n3) = (N * M) * n3 := by grind
  rw [x1, x2, ← b5, ← d5]
  grind
theorem rt_prod {i1 q1 u1 v1 n1 i2 q2 u2 v2 n2 i3 q3 u3 v3 n3 I Q U V N M : Int} (hM : 0 < M) (P1 : 0 < n1 * n3) (P2 : 0 < n2 * n3) (P3 : 0 < N * n3)
    (b1 : n2 * i1 + n1 * i2 = I * M) (b2 : n2 * q1 + n1 * q2 = Q * M) (b3 : n2 * u1 + n1 * u2 = U * M) (b4 : n2 * v1 + n1 * v2 = V * M) (b5 : n1 * n2 = N * M) :
    Rt (I * i3 - (Q * q3 + U * u3 + V * v3)) (N * n3) = Rt ((i1 * i3 - (q1 * q3 + u1 * u3 + v1 * v3)) * (n2 * n3) + (i2 * i3 - (q2 * q3 + u2 * u3 + v2 * v3)) * (n1 * n3)) ((n1 * n3) * (n2 * n3)) := by
  refine rt_eq P3 (Int.mul_pos P1 P2) ?_
  refine Int.eq_of_mul_eq_mul_left (Int.ne_of_gt hM) ?_
  have x1 : M * ((I * i3 - (Q * q3 + U * u3 + V * v3)) * ((n1 * n3) * (n2 * n3))) = ((I * M) * i3 - ((Q * M) * q3 + (U * M) * u3 + (V * M) * v3)) * ((n1 * n3) * (n2 * n3)) := by grind
  have x2 : M * (((i1 * i3 - (q1 * q3 + u1 * u3 + v1 * v3)) * (n2 * n3) + (i2 * i3 - (q2 * q3 + u2 * u3 + v2 * v3)) * (n1 * n3)) * (N * n3)) = ((i1 * i3 - (q1 * q3 + u1 * u3 + v1 * v3)) * (n2 * n3) + (i2 * i3 - (q2 * q3 + u2 * u3 + v2 * v3)) * (n1 * n3)) * ((N * M) * n3) := by grind
  rw [x1, x2, ← b1, ← b2, ← b3, ← b4, ← b5]
  grind
theorem rt_times {i1 q1 u1 v1 n1 i2 q2 u2 v2 n2 p r J K L O Z M2 : Int} (hM2 : 0 < M2) (r0 : 0 < r) (P4 : 0 < n1 * n2) (P5 : 0 < Z * n2)
    (g1 : p * i1 = J * M2) (g2 : p * q1 = K * M2) (g3 : p * u1 = L * M2) (g4 : p * v1 = O * M2) (g5 : r * n1 = Z * M2) :
    Rt (J * i2 - (K * q2 + L * u2 + O * v2)) (Z * n2) = Rt (p * (i1 * i2 - (q1 * q2 + u1 * u2 + v1 * v2))) (r * (n1 * n2)) := by
  refine rt_eq P5 (Int.mul_pos r0 P4) ?_
  refine Int.eq_of_mul_eq_mul_left (Int.ne_of_gt hM2) ?_
  have x1 : M2 * ((J * i2 - (K * q2 + L * u2 + O * v2)) * (r * (n1 * n2))) = ((J * M2) * i2 - ((K * M2) * q2 + (L * M2) * u2 + (O * M2) * v2)) * (r * (n1 * n2)) := by grind
  have x2 : M2 * ((p * (i1 * i2 - (q1 * q2 + u1 * u2 + v1 * v2))) * (Z * n2)) = (p * (i1 * i2 - (q1 * q2 + u1 * u2 + v1 * v2))) * ((Z * M2) * n2) := by grind
  rw [x1, x2, ← g1, ← g2, ← g3, ← g4, ← g5]
  grind
theorem rt_level {a b c d i1 q1 u1 v1 n1 i2 q2 u2 v2 n2 I Q U V N M : Int} (hM : 0 < M) (n0 : 0 < N) (P : 0 < n1 * n2)
    (b1 : n2 * i1 + n1 * i2 = I * M) (b2 : n2 * q1 + n1 * q2 = Q * M) (b3 : n2 * u1 + n1 * u2 = U * M) (b4 : n2 * v1 + n1 * v2 = V * M) (b5 : n1 * n2 = N * M) :
    Rt (a * I + b * Q + c * U + d * V) N = Rt ((a * i1 + b * q1 + c * u1 + d * v1) * n2 + (a * i2 + b * q2 + c * u2 + d * v2) * n1) (n1 * n2) := by
  refine rt_eq n0 P ?_
  refine Int.eq_of_mul_eq_mul_left (Int.ne_of_gt hM) ?_
  have x1 : M * ((a * I + b * Q + c * U + d * V) * (n1 * n2)) = (a * (I * M) + b * (Q * M) + c * (U * M) + d * (V * M)) * (n1 * n2) := by grind
  have x2 : M * (((a * i1 + b * q1 + c * u1 + d * v1) * n2 + (a * i2 + b * q2 + c * u2 + d * v2) * n1) * N) = ((a * i1 + b * q1 + c * u1 + d * v1) * n2 + (a * i2 + b * q2 + c * u2 + d * v2) * n1) * (N * M) := by grind
  rw [x1, x2, ← b1, ← b2, ← b3, ← b4, ← b5]
  grind
theorem e_right5 {k : Nat} {t : List PyData} (h : Tap (k + 60) t) : ∃ t', F__law_right [.cel 0] [t] = some (.dat (.bool true), [t']) := by
  obtain ⟨i1, q1, u1, v1, n1, t1, e1, h1, l1⟩ := e_shine (k := k + 50) h
  obtain ⟨i2, q2, u2, v2, n2, t2, e2, h2, l2⟩ := e_kin (k := k + 39) h1 l1
  obtain ⟨i3, q3, u3, v3, n3, t3, e3, h3, l3⟩ := e_kin (k := k + 28) h2 l1
  obtain ⟨p, r, t4, e4, h4, fr, p0⟩ := e_level' (k := k + 22) h3
  obtain ⟨a, b, c, d, t5, e5, h5, lk⟩ := e_eye (k := k + 11) h4
  obtain ⟨hq, hu, hv, hn, t6, e6, h6, hk⟩ := e_hue (k := k + 6) h5
  have l1' := l1.up (by decide : 40 ≤ 60)
  have w1 := e_pair l1' l2
  have w2 := e_pair l2 l3
  have w3 := e_pair l1' l1'
  have w4 := e_pair l3 dark60
  have s1 := e_timesr l1' fr p0
  have s2 := e_timesr l3 frac1 (by decide)
  have s3 := e_timesr l2 frac0 (by decide)
  -- sums
  obtain ⟨I, Q, U, V, N, M, a1, lA, hM, b1, b2, b3, b4, b5⟩ := added_sp l1' l2
  obtain ⟨I', Q', U', V', N', M', a2, lB, hM', d1, d2, d3, d4, d5⟩ := added_sp l2 l3
  have a3 : F_added [.dat (T5 I Q U V N), .dat (T5 i3 q3 u3 v3 n3)] [] = some (.dat (R5 (n3 * I + N * i3) (n3 * Q + N * q3) (n3 * U + N * u3) (n3 * V + N * v3) (N * n3)), []) := e_added (lA.up (by decide)) (l3.up (by decide))
  have a4 : F_added [.dat (T5 i1 q1 u1 v1 n1), .dat (T5 I' Q' U' V' N')] [] = some (.dat (R5 (n3 * I + N * i3) (n3 * Q + N * q3) (n3 * U + N * u3) (n3 * V + N * v3) (N * n3)), []) := by
    rw [e_added (l1.up (by decide)) (lB.up (by decide))]
    refine congrArg (fun x => some (RV.dat x, ([] : Cs))) (R5_red (red_par hM' hM ?_))
    simp only [List.map_cons, List.map_nil, List.cons.injEq, and_true]
    exact ⟨as1 b1 b5 d1 d5, as1 b2 b5 d2 d5, as1 b3 b5 d3 d5, as1 b4 b5 d4 d5, as2 b5 d5⟩
  have ra : ∃ t, Rep (R5 (n3 * I + N * i3) (n3 * Q + N * q3) (n3 * U + N * u3) (n3 * V + N * v3) (N * n3)) t := rep_R (lt_added lA l3).nice
  obtain ⟨ta, ra1, ra2, ra3⟩ := ra
  -- products of sums
  have z1 := e_product (l1.up (by decide : 40 ≤ 1000)) (l3.up (by decide : 60 ≤ 1000))
  have z2 := e_product (l2.up (by decide : 60 ≤ 1000)) (l3.up (by decide : 60 ≤ 1000))
  have f1 := fr_prod l1' l3
  have f2 := fr_prod l2 l3
  have z3 := e_lplus (f1.up (by decide : 123 ≤ 300)) (f2.up (by decide : 123 ≤ 300))
  have z4 := e_product (lA.up (by decide : 121 ≤ 1000)) (l3.up (by decide : 60 ≤ 1000))
  have P1 := Int.mul_pos l1.n0 l3.n0
  have P2 := Int.mul_pos l2.n0 l3.n0
  have P3 := Int.mul_pos lA.n0 l3.n0
  have rt1 := rt_prod (i3 := i3) (q3 := q3) (u3 := u3) (v3 := v3) hM P1 P2 P3 b1 b2 b3 b4 b5
  have rt2 := ((isq_rt (p := i1 * i3 - (q1 * q3 + u1 * u3 + v1 * v3)) P1).add (isq_rt (p := i2 * i3 - (q2 * q3 + u2 * u3 + v2 * v3)) P2)).rt (Int.mul_pos f1.q0 f2.q0) (Int.mul_pos P1 P2)
  rw [rt2, ← rt1] at z3
  have rb : ∃ t, Rep (Rt (I * i3 - (Q * q3 + U * u3 + V * v3)) (N * n3)) t := rep_R (fr_prod lA l3).nice
  obtain ⟨tb, rb1, rb2, rb3⟩ := rb
  -- products of multiples
  obtain ⟨J, K, L, O, Z, M2, y1, lC, hM2, g1, g2, g3, g4, g5⟩ := times_sp l1' fr p0
  have y2 := e_product (lC.up (by decide : 100 ≤ 1000)) (l2.up (by decide : 60 ≤ 1000))
  have y3 := e_product (l1.up (by decide : 40 ≤ 1000)) (l2.up (by decide : 60 ≤ 1000))
  have f3 := fr_prod l1' l2
  have y4 := e_lby (fr.up (by decide : 40 ≤ 300)) (f3.up (by decide : 123 ≤ 300))
  have P4 := Int.mul_pos l1.n0 l2.n0
  have P5 := Int.mul_pos lC.n0 l2.n0
  have rt3 := rt_times (i2 := i2) (q2 := q2) (u2 := u2) (v2 := v2) hM2 fr.q0 P4 P5 g1 g2 g3 g4 g5
  have rt4 := ((show IsQ p r p r from rfl).mul (isq_rt (p := i1 * i2 - (q1 * q2 + u1 * u2 + v1 * v2)) P4)).rt (Int.mul_pos fr.q0 f3.q0) (Int.mul_pos fr.q0 P4)
  rw [rt4, ← rt3] at y4
  have rc : ∃ t, Rep (Rt (J * i2 - (K * q2 + L * u2 + O * v2)) (Z * n2)) t := rep_R (fr_prod lC l2).nice
  obtain ⟨tc, rc1, rc2, rc3⟩ := rc
  -- levels of sums
  have lk' := lk.up (by decide : 40 ≤ 1000)
  have x1 := e_level lk' (l1.up (by decide : 40 ≤ 1000))
  have x2 := e_level lk' (l2.up (by decide : 60 ≤ 1000))
  have x3 := e_level lk' (lA.up (by decide : 121 ≤ 1000))
  have fl : ∀ {m : Nat} {i q u v n : Int}, m ≤ 121 → Lt m i q u v n → Fr 170 ((a * i + b * q + c * u + d * v) / rg (a * i + b * q + c * u + d * v) n) (n / rg (a * i + b * q + c * u + d * v) n) := fun hm l => by
    have l' := l.up hm
    exact rt_fr l'.n0 (((((lk.sa.mul l'.si).add (lk.sb.mul l'.sq)).add (lk.sc.mul l'.su)).add (lk.sd.mul l'.sv)).by _ (by decide)) (l'.sn.by _ (by decide))
  have x4 := e_lplus ((fl (by decide) l1).up (by decide : 170 ≤ 300)) ((fl (by decide) l2).up (by decide : 170 ≤ 300))
  have rt5 := ((isq_rt (p := a * i1 + b * q1 + c * u1 + d * v1) l1.n0).add (isq_rt (p := a * i2 + b * q2 + c * u2 + d * v2) l2.n0)).rt (Int.mul_pos (fl (by decide) l1).q0 (fl (by decide) l2).q0) (Int.mul_pos l1.n0 l2.n0)
  have rt6 := rt_level (a := a) (b := b) (c := c) (d := d) hM lA.n0 P4 b1 b2 b3 b4 b5
  rw [rt5, ← rt6] at x4
  have rd : ∃ t, Rep (Rt (a * I + b * Q + c * U + d * V) N) t := rep_R (fl (by decide) lA).nice
  obtain ⟨td, rd1, rd2, rd3⟩ := rd
  -- one kind with itself
  have k1 := e_pure (⟨hk.n0, hk.sph, hk.one, hk.sq.by _ (by decide), hk.su.by _ (by decide), hk.sv.by _ (by decide), hk.sn.by _ (by decide)⟩ : Kd 4000 hq hu hv hn)
  have lK := lt_kd hk
  have k2 := e_product (lK.up (by decide : 30 ≤ 1000)) (lK.up (by decide : 30 ≤ 1000))
  have hz : hn * hn - (hq * hq + hu * hu + hv * hv) = 0 := by rw [hk.sph]; omega
  rw [hz, Rt_zero (Int.mul_pos hk.n0 hk.n0)] at k2
  obtain ⟨te, re1, re2, re3⟩ := rep_R (frac0.nice)
  -- nothing added
  have o1 : F_added [.dat (T5 i1 q1 u1 v1 n1), .dat (T5 0 0 0 0 1)] [] = some (.dat (T5 i1 q1 u1 v1 n1), []) := by
    have := e_added (l1.up (by decide : 40 ≤ 1000)) (lt_dark0.up (by decide : 40 ≤ 1000))
    simp only [Int.one_mul, Int.mul_zero, Int.add_zero, Int.mul_one] at this
    rw [this, R5_one l1.one]
  obtain ⟨tf, rf1, rf2, rf3⟩ := rep_R l1.nice
  refine ⟨t6, ?_⟩
  unfold Rt at z1 z2 z3 z4 y2 y3 y4 x1 x2 x3 x4 rb1 rc1 rd1
  unfold R5 at a3 a4 ra1
  clear l1 l2 l3 l1' lA lB lC fl lk lk' lK hk f1 f2 f3 fr P1 P2 P3 P4 P5 rt1 rt2 rt3 rt4 rt5 rt6
  have c0 : (fSet 1 (fCall F__law_shine (fCelA 0 fNilA))) ⟨[some (.cel 0), none, none, none, none, none, none, none, none, none, none], [t]⟩ = some (.nx ⟨[some (.cel 0), some (.dat (T5 i1 q1 u1 v1 n1)), none, none, none, none, none, none, none, none, none], [t1]⟩) := by
    simp only [fZip, zipD, gSum, intsOf, List.foldl_cons, List.foldl_nil, mkF, fRet, fRetL, fRetN, fSkip, fSeq, fNever, fSet, fAsg, fNew, fIfS, fDrop, fPar, fPar3, fSetc, fSetc2, fVar, fLit, fOp, fUn, fTup, fTup.datsOf, fLst, fNilA, fConsA, fStarA, fCelA, fOfL, fTru, fAndT, fOrT, fNotT, fAndV, fOrV, fNotV, fIf, fBi, fCall, fCallL, fCallFr, fPerm, callF, celOf, celsOk, norm, aName, aNil, aCons, aTup, setD, fSl, fIt, fItL, fItT, fFor, forGo, fLc, lcGo, fYes, wipeD, fCix, fList, fSlL, fPart, fNoPart, fChain, List.length_cons, List.length_nil, List.getElem?_cons_zero, List.getElem?_cons_succ, List.getElem?_nil, List.set_cons_zero, List.set_cons_succ, List.map_cons, List.map_nil, List.cons_append, List.nil_append, List.append_nil, List.replicate, List.take_zero, List.take_nil, List.take_succ_cons, ↓bsome, ↓msome, Option.bind_some, Option.map_some, Option.bind_none, Option.map_none, Nat.sub_self, Int.cast_ofNat_Int, Nat.reduceAdd, Nat.reduceMul, Nat.reduceSub, Nat.reduceLeDiff, Nat.reduceLT, Nat.zero_add, Nat.add_zero, and_self, and_true, true_and, if_true, if_false, ↓reduceIte, ite_true, Bool.true_eq_false, Bool.false_eq_true, beq_self_eq_true, Bool.and_self, Bool.not_true, Bool.not_false, decide_true, decide_false, gLen, gTyIs, gTyNot, tyOf, gNeg, gPlus, DL.gSub, gCmp, gInt, gAbs, gTuple, gMax, gMin, gGcd, LIM, gIx, e1]
  have c1 : (fPar 5 6 (fConsA (fCall F__law_kin (fCelA 0 (fConsA (fVar 1) fNilA))) (fConsA (fCall F__law_kin (fCelA 0 (fConsA (fVar 1) fNilA))) fNilA))) ⟨[some (.cel 0), some (.dat (T5 i1 q1 u1 v1 n1)), none, none, none, none, none, none, none, none, none], [t1]⟩ = some (.nx ⟨[some (.cel 0), some (.dat (T5 i1 q1 u1 v1 n1)), none, none, none, some (.dat (T5 i2 q2 u2 v2 n2)), some (.dat (T5 i3 q3 u3 v3 n3)), none, none, none, none], [t3]⟩) := by
    simp only [fZip, zipD, gSum, intsOf, List.foldl_cons, List.foldl_nil, mkF, fRet, fRetL, fRetN, fSkip, fSeq, fNever, fSet, fAsg, fNew, fIfS, fDrop, fPar, fPar3, fSetc, fSetc2, fVar, fLit, fOp, fUn, fTup, fTup.datsOf, fLst, fNilA, fConsA, fStarA, fCelA, fOfL, fTru, fAndT, fOrT, fNotT, fAndV, fOrV, fNotV, fIf, fBi, fCall, fCallL, fCallFr, fPerm, callF, celOf, celsOk, norm, aName, aNil, aCons, aTup, setD, fSl, fIt, fItL, fItT, fFor, forGo, fLc, lcGo, fYes, wipeD, fCix, fList, fSlL, fPart, fNoPart, fChain, List.length_cons, List.length_nil, List.getElem?_cons_zero, List.getElem?_cons_succ, List.getElem?_nil, List.set_cons_zero, List.set_cons_succ, List.map_cons, List.map_nil, List.cons_append, List.nil_append, List.append_nil, List.replicate, List.take_zero, List.take_nil, List.take_succ_cons, ↓bsome, ↓msome, Option.bind_some, Option.map_some, Option.bind_none, Option.map_none, Nat.sub_self, Int.cast_ofNat_Int, Nat.reduceAdd, Nat.reduceMul, Nat.reduceSub, Nat.reduceLeDiff, Nat.reduceLT, Nat.zero_add, Nat.add_zero, and_self, and_true, true_and, if_true, if_false, ↓reduceIte, ite_true, Bool.true_eq_false, Bool.false_eq_true, beq_self_eq_true, Bool.and_self, Bool.not_true, Bool.not_false, decide_true, decide_false, gLen, gTyIs, gTyNot, tyOf, gNeg, gPlus, DL.gSub, gCmp, gInt, gAbs, gTuple, gMax, gMin, gGcd, LIM, gIx, e2, e3]
  have c2 : (fPar 7 8 (fConsA (fCall F__law_level (fCelA 0 fNilA)) (fConsA (fCall F__law_eye (fCelA 0 fNilA)) fNilA))) ⟨[some (.cel 0), some (.dat (T5 i1 q1 u1 v1 n1)), none, none, none, some (.dat (T5 i2 q2 u2 v2 n2)), some (.dat (T5 i3 q3 u3 v3 n3)), none, none, none, none], [t3]⟩ = some (.nx ⟨[some (.cel 0), some (.dat (T5 i1 q1 u1 v1 n1)), none, none, none, some (.dat (T5 i2 q2 u2 v2 n2)), some (.dat (T5 i3 q3 u3 v3 n3)), some (.dat (T2 p r)), some (.dat (T4 a b c d)), none, none], [t5]⟩) := by
    simp only [fZip, zipD, gSum, intsOf, List.foldl_cons, List.foldl_nil, mkF, fRet, fRetL, fRetN, fSkip, fSeq, fNever, fSet, fAsg, fNew, fIfS, fDrop, fPar, fPar3, fSetc, fSetc2, fVar, fLit, fOp, fUn, fTup, fTup.datsOf, fLst, fNilA, fConsA, fStarA, fCelA, fOfL, fTru, fAndT, fOrT, fNotT, fAndV, fOrV, fNotV, fIf, fBi, fCall, fCallL, fCallFr, fPerm, callF, celOf, celsOk, norm, aName, aNil, aCons, aTup, setD, fSl, fIt, fItL, fItT, fFor, forGo, fLc, lcGo, fYes, wipeD, fCix, fList, fSlL, fPart, fNoPart, fChain, List.length_cons, List.length_nil, List.getElem?_cons_zero, List.getElem?_cons_succ, List.getElem?_nil, List.set_cons_zero, List.set_cons_succ, List.map_cons, List.map_nil, List.cons_append, List.nil_append, List.append_nil, List.replicate, List.take_zero, List.take_nil, List.take_succ_cons, ↓bsome, ↓msome, Option.bind_some, Option.map_some, Option.bind_none, Option.map_none, Nat.sub_self, Int.cast_ofNat_Int, Nat.reduceAdd, Nat.reduceMul, Nat.reduceSub, Nat.reduceLeDiff, Nat.reduceLT, Nat.zero_add, Nat.add_zero, and_self, and_true, true_and, if_true, if_false, ↓reduceIte, ite_true, Bool.true_eq_false, Bool.false_eq_true, beq_self_eq_true, Bool.and_self, Bool.not_true, Bool.not_false, decide_true, decide_false, gLen, gTyIs, gTyNot, tyOf, gNeg, gPlus, DL.gSub, gCmp, gInt, gAbs, gTuple, gMax, gMin, gGcd, LIM, gIx, e4, e5]
  have c3 : (fFor (fIt (fOfL (fLst (fConsA (fTup (fConsA (fVar 1) (fConsA (fVar 5) fNilA))) (fConsA (fTup (fConsA (fVar 5) (fConsA (fVar 6) fNilA))) (fConsA (fTup (fConsA (fVar 1) (fConsA (fVar 1) fNilA))) (fConsA (fTup (fConsA (fVar 6) (fConsA (fTup (fConsA (fLit (.int 0)) (fConsA (fLit (.int 0)) (fConsA (fLit (.int 0)) (fConsA (fLit (.int 0)) (fConsA (fLit (.int 1)) fNilA)))))) fNilA))) fNilA))))))) (aTup 2 (aCons (aName 9) (aCons (aName 10) aNil))) (fIfS (fNotT (fTru (fCall F__law_pair_right (fConsA (fVar 9) (fConsA (fVar 10) fNilA))))) (fRet (fLit (.bool false))) fSkip)) ⟨[some (.cel 0), some (.dat (T5 i1 q1 u1 v1 n1)), none, none, none, some (.dat (T5 i2 q2 u2 v2 n2)), some (.dat (T5 i3 q3 u3 v3 n3)), some (.dat (T2 p r)), some (.dat (T4 a b c d)), none, none], [t5]⟩ = some (.nx ⟨[some (.cel 0), some (.dat (T5 i1 q1 u1 v1 n1)), none, none, none, some (.dat (T5 i2 q2 u2 v2 n2)), some (.dat (T5 i3 q3 u3 v3 n3)), some (.dat (T2 p r)), some (.dat (T4 a b c d)), some (.dat (T5 i3 q3 u3 v3 n3)), some (.dat (T5 0 0 0 0 1))], [t5]⟩) := by
    simp only [fZip, zipD, gSum, intsOf, List.foldl_cons, List.foldl_nil, mkF, fRet, fRetL, fRetN, fSkip, fSeq, fNever, fSet, fAsg, fNew, fIfS, fDrop, fPar, fPar3, fSetc, fSetc2, fVar, fLit, fOp, fUn, fTup, fTup.datsOf, fLst, fNilA, fConsA, fStarA, fCelA, fOfL, fTru, fAndT, fOrT, fNotT, fAndV, fOrV, fNotV, fIf, fBi, fCall, fCallL, fCallFr, fPerm, callF, celOf, celsOk, norm, aName, aNil, aCons, aTup, setD, fSl, fIt, fItL, fItT, fFor, forGo, fLc, lcGo, fYes, wipeD, fCix, fList, fSlL, fPart, fNoPart, fChain, List.length_cons, List.length_nil, List.getElem?_cons_zero, List.getElem?_cons_succ, List.getElem?_nil, List.set_cons_zero, List.set_cons_succ, List.map_cons, List.map_nil, List.cons_append, List.nil_append, List.append_nil, List.replicate, List.take_zero, List.take_nil, List.take_succ_cons, ↓bsome, ↓msome, Option.bind_some, Option.map_some, Option.bind_none, Option.map_none, Nat.sub_self, Int.cast_ofNat_Int, Nat.reduceAdd, Nat.reduceMul, Nat.reduceSub, Nat.reduceLeDiff, Nat.reduceLT, Nat.zero_add, Nat.add_zero, and_self, and_true, true_and, if_true, if_false, ↓reduceIte, ite_true, Bool.true_eq_false, Bool.false_eq_true, beq_self_eq_true, Bool.and_self, Bool.not_true, Bool.not_false, decide_true, decide_false, gLen, gTyIs, gTyNot, tyOf, gNeg, gPlus, DL.gSub, gCmp, gInt, gAbs, gTuple, gMax, gMin, gGcd, LIM, gIx, w1, w2, w3, w4]
  have c4 : (fIfS (fOrT (fNotT (fTru (fCall F__law_times_right (fConsA (fVar 1) (fConsA (fVar 7) fNilA))))) (fNotT (fTru (fCall F__law_times_right (fConsA (fVar 6) (fConsA (fTup (fConsA (fLit (.int 1)) (fConsA (fLit (.int 1)) fNilA))) fNilA)))))) (fRet (fLit (.bool false))) fSkip) ⟨[some (.cel 0), some (.dat (T5 i1 q1 u1 v1 n1)), none, none, none, some (.dat (T5 i2 q2 u2 v2 n2)), some (.dat (T5 i3 q3 u3 v3 n3)), some (.dat (T2 p r)), some (.dat (T4 a b c d)), some (.dat (T5 i3 q3 u3 v3 n3)), some (.dat (T5 0 0 0 0 1))], [t5]⟩ = some (.nx ⟨[some (.cel 0), some (.dat (T5 i1 q1 u1 v1 n1)), none, none, none, some (.dat (T5 i2 q2 u2 v2 n2)), some (.dat (T5 i3 q3 u3 v3 n3)), some (.dat (T2 p r)), some (.dat (T4 a b c d)), some (.dat (T5 i3 q3 u3 v3 n3)), some (.dat (T5 0 0 0 0 1))], [t5]⟩) := by
    simp only [fZip, zipD, gSum, intsOf, List.foldl_cons, List.foldl_nil, mkF, fRet, fRetL, fRetN, fSkip, fSeq, fNever, fSet, fAsg, fNew, fIfS, fDrop, fPar, fPar3, fSetc, fSetc2, fVar, fLit, fOp, fUn, fTup, fTup.datsOf, fLst, fNilA, fConsA, fStarA, fCelA, fOfL, fTru, fAndT, fOrT, fNotT, fAndV, fOrV, fNotV, fIf, fBi, fCall, fCallL, fCallFr, fPerm, callF, celOf, celsOk, norm, aName, aNil, aCons, aTup, setD, fSl, fIt, fItL, fItT, fFor, forGo, fLc, lcGo, fYes, wipeD, fCix, fList, fSlL, fPart, fNoPart, fChain, List.length_cons, List.length_nil, List.getElem?_cons_zero, List.getElem?_cons_succ, List.getElem?_nil, List.set_cons_zero, List.set_cons_succ, List.map_cons, List.map_nil, List.cons_append, List.nil_append, List.append_nil, List.replicate, List.take_zero, List.take_nil, List.take_succ_cons, ↓bsome, ↓msome, Option.bind_some, Option.map_some, Option.bind_none, Option.map_none, Nat.sub_self, Int.cast_ofNat_Int, Nat.reduceAdd, Nat.reduceMul, Nat.reduceSub, Nat.reduceLeDiff, Nat.reduceLT, Nat.zero_add, Nat.add_zero, and_self, and_true, true_and, if_true, if_false, ↓reduceIte, ite_true, Bool.true_eq_false, Bool.false_eq_true, beq_self_eq_true, Bool.and_self, Bool.not_true, Bool.not_false, decide_true, decide_false, gLen, gTyIs, gTyNot, tyOf, gNeg, gPlus, DL.gSub, gCmp, gInt, gAbs, gTuple, gMax, gMin, gGcd, LIM, gIx, s1, s2]
  have c5 : (fIfS (fNotT (fTru (fCall F__law_times_right (fConsA (fVar 5) (fConsA (fTup (fConsA (fLit (.int 0)) (fConsA (fLit (.int 1)) fNilA))) fNilA))))) (fRet (fLit (.bool false))) fSkip) ⟨[some (.cel 0), some (.dat (T5 i1 q1 u1 v1 n1)), none, none, none, some (.dat (T5 i2 q2 u2 v2 n2)), some (.dat (T5 i3 q3 u3 v3 n3)), some (.dat (T2 p r)), some (.dat (T4 a b c d)), some (.dat (T5 i3 q3 u3 v3 n3)), some (.dat (T5 0 0 0 0 1))], [t5]⟩ = some (.nx ⟨[some (.cel 0), some (.dat (T5 i1 q1 u1 v1 n1)), none, none, none, some (.dat (T5 i2 q2 u2 v2 n2)), some (.dat (T5 i3 q3 u3 v3 n3)), some (.dat (T2 p r)), some (.dat (T4 a b c d)), some (.dat (T5 i3 q3 u3 v3 n3)), some (.dat (T5 0 0 0 0 1))], [t5]⟩) := by
    simp only [fZip, zipD, gSum, intsOf, List.foldl_cons, List.foldl_nil, mkF, fRet, fRetL, fRetN, fSkip, fSeq, fNever, fSet, fAsg, fNew, fIfS, fDrop, fPar, fPar3, fSetc, fSetc2, fVar, fLit, fOp, fUn, fTup, fTup.datsOf, fLst, fNilA, fConsA, fStarA, fCelA, fOfL, fTru, fAndT, fOrT, fNotT, fAndV, fOrV, fNotV, fIf, fBi, fCall, fCallL, fCallFr, fPerm, callF, celOf, celsOk, norm, aName, aNil, aCons, aTup, setD, fSl, fIt, fItL, fItT, fFor, forGo, fLc, lcGo, fYes, wipeD, fCix, fList, fSlL, fPart, fNoPart, fChain, List.length_cons, List.length_nil, List.getElem?_cons_zero, List.getElem?_cons_succ, List.getElem?_nil, List.set_cons_zero, List.set_cons_succ, List.map_cons, List.map_nil, List.cons_append, List.nil_append, List.append_nil, List.replicate, List.take_zero, List.take_nil, List.take_succ_cons, ↓bsome, ↓msome, Option.bind_some, Option.map_some, Option.bind_none, Option.map_none, Nat.sub_self, Int.cast_ofNat_Int, Nat.reduceAdd, Nat.reduceMul, Nat.reduceSub, Nat.reduceLeDiff, Nat.reduceLT, Nat.zero_add, Nat.add_zero, and_self, and_true, true_and, if_true, if_false, ↓reduceIte, ite_true, Bool.true_eq_false, Bool.false_eq_true, beq_self_eq_true, Bool.and_self, Bool.not_true, Bool.not_false, decide_true, decide_false, gLen, gTyIs, gTyNot, tyOf, gNeg, gPlus, DL.gSub, gCmp, gInt, gAbs, gTuple, gMax, gMin, gGcd, LIM, gIx, s3]
  have c6 : (fIfS (fTru (fOp gNe (fBi gRepr (fConsA (fCall F_added (fConsA (fCall F_added (fConsA (fVar 1) (fConsA (fVar 5) fNilA))) (fConsA (fVar 6) fNilA))) fNilA)) (fBi gRepr (fConsA (fCall F_added (fConsA (fVar 1) (fConsA (fCall F_added (fConsA (fVar 5) (fConsA (fVar 6) fNilA))) fNilA))) fNilA)))) (fRet (fLit (.bool false))) fSkip) ⟨[some (.cel 0), some (.dat (T5 i1 q1 u1 v1 n1)), none, none, none, some (.dat (T5 i2 q2 u2 v2 n2)), some (.dat (T5 i3 q3 u3 v3 n3)), some (.dat (T2 p r)), some (.dat (T4 a b c d)), some (.dat (T5 i3 q3 u3 v3 n3)), some (.dat (T5 0 0 0 0 1))], [t5]⟩ = some (.nx ⟨[some (.cel 0), some (.dat (T5 i1 q1 u1 v1 n1)), none, none, none, some (.dat (T5 i2 q2 u2 v2 n2)), some (.dat (T5 i3 q3 u3 v3 n3)), some (.dat (T2 p r)), some (.dat (T4 a b c d)), some (.dat (T5 i3 q3 u3 v3 n3)), some (.dat (T5 0 0 0 0 1))], [t5]⟩) := by
    simp only [fZip, zipD, gSum, intsOf, List.foldl_cons, List.foldl_nil, mkF, fRet, fRetL, fRetN, fSkip, fSeq, fNever, fSet, fAsg, fNew, fIfS, fDrop, fPar, fPar3, fSetc, fSetc2, fVar, fLit, fOp, fUn, fTup, fTup.datsOf, fLst, fNilA, fConsA, fStarA, fCelA, fOfL, fTru, fAndT, fOrT, fNotT, fAndV, fOrV, fNotV, fIf, fBi, fCall, fCallL, fCallFr, fPerm, callF, celOf, celsOk, norm, aName, aNil, aCons, aTup, setD, fSl, fIt, fItL, fItT, fFor, forGo, fLc, lcGo, fYes, wipeD, fCix, fList, fSlL, fPart, fNoPart, fChain, List.length_cons, List.length_nil, List.getElem?_cons_zero, List.getElem?_cons_succ, List.getElem?_nil, List.set_cons_zero, List.set_cons_succ, List.map_cons, List.map_nil, List.cons_append, List.nil_append, List.append_nil, List.replicate, List.take_zero, List.take_nil, List.take_succ_cons, ↓bsome, ↓msome, Option.bind_some, Option.map_some, Option.bind_none, Option.map_none, Nat.sub_self, Int.cast_ofNat_Int, Nat.reduceAdd, Nat.reduceMul, Nat.reduceSub, Nat.reduceLeDiff, Nat.reduceLT, Nat.zero_add, Nat.add_zero, and_self, and_true, true_and, if_true, if_false, ↓reduceIte, ite_true, Bool.true_eq_false, Bool.false_eq_true, beq_self_eq_true, Bool.and_self, Bool.not_true, Bool.not_false, decide_true, decide_false, gLen, gTyIs, gTyNot, tyOf, gNeg, gPlus, DL.gSub, gCmp, gInt, gAbs, gTuple, gMax, gMin, gGcd, LIM, gIx, a1, a2, a3, a4, ra1, ra2]
  have c7 : (fSet 2 (fCall F__law_plus (fConsA (fCall F_product (fConsA (fVar 1) (fConsA (fVar 6) fNilA))) (fConsA (fCall F_product (fConsA (fVar 5) (fConsA (fVar 6) fNilA))) fNilA)))) ⟨[some (.cel 0), some (.dat (T5 i1 q1 u1 v1 n1)), none, none, none, some (.dat (T5 i2 q2 u2 v2 n2)), some (.dat (T5 i3 q3 u3 v3 n3)), some (.dat (T2 p r)), some (.dat (T4 a b c d)), some (.dat (T5 i3 q3 u3 v3 n3)), some (.dat (T5 0 0 0 0 1))], [t5]⟩ = some (.nx ⟨[some (.cel 0), some (.dat (T5 i1 q1 u1 v1 n1)), some (.dat (T2 ((I * i3 - (Q * q3 + U * u3 + V * v3)) / rg (I * i3 - (Q * q3 + U * u3 + V * v3)) (N * n3)) (N * n3 / rg (I * i3 - (Q * q3 + U * u3 + V * v3)) (N * n3)))), none, none, some (.dat (T5 i2 q2 u2 v2 n2)), some (.dat (T5 i3 q3 u3 v3 n3)), some (.dat (T2 p r)), some (.dat (T4 a b c d)), some (.dat (T5 i3 q3 u3 v3 n3)), some (.dat (T5 0 0 0 0 1))], [t5]⟩) := by
    simp only [fZip, zipD, gSum, intsOf, List.foldl_cons, List.foldl_nil, mkF, fRet, fRetL, fRetN, fSkip, fSeq, fNever, fSet, fAsg, fNew, fIfS, fDrop, fPar, fPar3, fSetc, fSetc2, fVar, fLit, fOp, fUn, fTup, fTup.datsOf, fLst, fNilA, fConsA, fStarA, fCelA, fOfL, fTru, fAndT, fOrT, fNotT, fAndV, fOrV, fNotV, fIf, fBi, fCall, fCallL, fCallFr, fPerm, callF, celOf, celsOk, norm, aName, aNil, aCons, aTup, setD, fSl, fIt, fItL, fItT, fFor, forGo, fLc, lcGo, fYes, wipeD, fCix, fList, fSlL, fPart, fNoPart, fChain, List.length_cons, List.length_nil, List.getElem?_cons_zero, List.getElem?_cons_succ, List.getElem?_nil, List.set_cons_zero, List.set_cons_succ, List.map_cons, List.map_nil, List.cons_append, List.nil_append, List.append_nil, List.replicate, List.take_zero, List.take_nil, List.take_succ_cons, ↓bsome, ↓msome, Option.bind_some, Option.map_some, Option.bind_none, Option.map_none, Nat.sub_self, Int.cast_ofNat_Int, Nat.reduceAdd, Nat.reduceMul, Nat.reduceSub, Nat.reduceLeDiff, Nat.reduceLT, Nat.zero_add, Nat.add_zero, and_self, and_true, true_and, if_true, if_false, ↓reduceIte, ite_true, Bool.true_eq_false, Bool.false_eq_true, beq_self_eq_true, Bool.and_self, Bool.not_true, Bool.not_false, decide_true, decide_false, gLen, gTyIs, gTyNot, tyOf, gNeg, gPlus, DL.gSub, gCmp, gInt, gAbs, gTuple, gMax, gMin, gGcd, LIM, gIx, z1, z2, z3]
  have c8 : (fIfS (fTru (fOp gNe (fBi gRepr (fConsA (fCall F_product (fConsA (fCall F_added (fConsA (fVar 1) (fConsA (fVar 5) fNilA))) (fConsA (fVar 6) fNilA))) fNilA)) (fBi gRepr (fConsA (fVar 2) fNilA)))) (fRet (fLit (.bool false))) fSkip) ⟨[some (.cel 0), some (.dat (T5 i1 q1 u1 v1 n1)), some (.dat (T2 ((I * i3 - (Q * q3 + U * u3 + V * v3)) / rg (I * i3 - (Q * q3 + U * u3 + V * v3)) (N * n3)) (N * n3 / rg (I * i3 - (Q * q3 + U * u3 + V * v3)) (N * n3)))), none, none, some (.dat (T5 i2 q2 u2 v2 n2)), some (.dat (T5 i3 q3 u3 v3 n3)), some (.dat (T2 p r)), some (.dat (T4 a b c d)), some (.dat (T5 i3 q3 u3 v3 n3)), some (.dat (T5 0 0 0 0 1))], [t5]⟩ = some (.nx ⟨[some (.cel 0), some (.dat (T5 i1 q1 u1 v1 n1)), some (.dat (T2 ((I * i3 - (Q * q3 + U * u3 + V * v3)) / rg (I * i3 - (Q * q3 + U * u3 + V * v3)) (N * n3)) (N * n3 / rg (I * i3 - (Q * q3 + U * u3 + V * v3)) (N * n3)))), none, none, some (.dat (T5 i2 q2 u2 v2 n2)), some (.dat (T5 i3 q3 u3 v3 n3)), some (.dat (T2 p r)), some (.dat (T4 a b c d)), some (.dat (T5 i3 q3 u3 v3 n3)), some (.dat (T5 0 0 0 0 1))], [t5]⟩) := by
    simp only [fZip, zipD, gSum, intsOf, List.foldl_cons, List.foldl_nil, mkF, fRet, fRetL, fRetN, fSkip, fSeq, fNever, fSet, fAsg, fNew, fIfS, fDrop, fPar, fPar3, fSetc, fSetc2, fVar, fLit, fOp, fUn, fTup, fTup.datsOf, fLst, fNilA, fConsA, fStarA, fCelA, fOfL, fTru, fAndT, fOrT, fNotT, fAndV, fOrV, fNotV, fIf, fBi, fCall, fCallL, fCallFr, fPerm, callF, celOf, celsOk, norm, aName, aNil, aCons, aTup, setD, fSl, fIt, fItL, fItT, fFor, forGo, fLc, lcGo, fYes, wipeD, fCix, fList, fSlL, fPart, fNoPart, fChain, List.length_cons, List.length_nil, List.getElem?_cons_zero, List.getElem?_cons_succ, List.getElem?_nil, List.set_cons_zero, List.set_cons_succ, List.map_cons, List.map_nil, List.cons_append, List.nil_append, List.append_nil, List.replicate, List.take_zero, List.take_nil, List.take_succ_cons, ↓bsome, ↓msome, Option.bind_some, Option.map_some, Option.bind_none, Option.map_none, Nat.sub_self, Int.cast_ofNat_Int, Nat.reduceAdd, Nat.reduceMul, Nat.reduceSub, Nat.reduceLeDiff, Nat.reduceLT, Nat.zero_add, Nat.add_zero, and_self, and_true, true_and, if_true, if_false, ↓reduceIte, ite_true, Bool.true_eq_false, Bool.false_eq_true, beq_self_eq_true, Bool.and_self, Bool.not_true, Bool.not_false, decide_true, decide_false, gLen, gTyIs, gTyNot, tyOf, gNeg, gPlus, DL.gSub, gCmp, gInt, gAbs, gTuple, gMax, gMin, gGcd, LIM, gIx, a1, z4, rb1, rb2]
  have c9 : (fIfS (fTru (fOp gNe (fBi gRepr (fConsA (fCall F_product (fConsA (fCall F_times (fConsA (fVar 1) (fConsA (fVar 7) fNilA))) (fConsA (fVar 5) fNilA))) fNilA)) (fBi gRepr (fConsA (fCall F__law_by (fConsA (fVar 7) (fConsA (fCall F_product (fConsA (fVar 1) (fConsA (fVar 5) fNilA))) fNilA))) fNilA)))) (fRet (fLit (.bool false))) fSkip) ⟨[some (.cel 0), some (.dat (T5 i1 q1 u1 v1 n1)), some (.dat (T2 ((I * i3 - (Q * q3 + U * u3 + V * v3)) / rg (I * i3 - (Q * q3 + U * u3 + V * v3)) (N * n3)) (N * n3 / rg (I * i3 - (Q * q3 + U * u3 + V * v3)) (N * n3)))), none, none, some (.dat (T5 i2 q2 u2 v2 n2)), some (.dat (T5 i3 q3 u3 v3 n3)), some (.dat (T2 p r)), some (.dat (T4 a b c d)), some (.dat (T5 i3 q3 u3 v3 n3)), some (.dat (T5 0 0 0 0 1))], [t5]⟩ = some (.nx ⟨[some (.cel 0), some (.dat (T5 i1 q1 u1 v1 n1)), some (.dat (T2 ((I * i3 - (Q * q3 + U * u3 + V * v3)) / rg (I * i3 - (Q * q3 + U * u3 + V * v3)) (N * n3)) (N * n3 / rg (I * i3 - (Q * q3 + U * u3 + V * v3)) (N * n3)))), none, none, some (.dat (T5 i2 q2 u2 v2 n2)), some (.dat (T5 i3 q3 u3 v3 n3)), some (.dat (T2 p r)), some (.dat (T4 a b c d)), some (.dat (T5 i3 q3 u3 v3 n3)), some (.dat (T5 0 0 0 0 1))], [t5]⟩) := by
    simp only [fZip, zipD, gSum, intsOf, List.foldl_cons, List.foldl_nil, mkF, fRet, fRetL, fRetN, fSkip, fSeq, fNever, fSet, fAsg, fNew, fIfS, fDrop, fPar, fPar3, fSetc, fSetc2, fVar, fLit, fOp, fUn, fTup, fTup.datsOf, fLst, fNilA, fConsA, fStarA, fCelA, fOfL, fTru, fAndT, fOrT, fNotT, fAndV, fOrV, fNotV, fIf, fBi, fCall, fCallL, fCallFr, fPerm, callF, celOf, celsOk, norm, aName, aNil, aCons, aTup, setD, fSl, fIt, fItL, fItT, fFor, forGo, fLc, lcGo, fYes, wipeD, fCix, fList, fSlL, fPart, fNoPart, fChain, List.length_cons, List.length_nil, List.getElem?_cons_zero, List.getElem?_cons_succ, List.getElem?_nil, List.set_cons_zero, List.set_cons_succ, List.map_cons, List.map_nil, List.cons_append, List.nil_append, List.append_nil, List.replicate, List.take_zero, List.take_nil, List.take_succ_cons, ↓bsome, ↓msome, Option.bind_some, Option.map_some, Option.bind_none, Option.map_none, Nat.sub_self, Int.cast_ofNat_Int, Nat.reduceAdd, Nat.reduceMul, Nat.reduceSub, Nat.reduceLeDiff, Nat.reduceLT, Nat.zero_add, Nat.add_zero, and_self, and_true, true_and, if_true, if_false, ↓reduceIte, ite_true, Bool.true_eq_false, Bool.false_eq_true, beq_self_eq_true, Bool.and_self, Bool.not_true, Bool.not_false, decide_true, decide_false, gLen, gTyIs, gTyNot, tyOf, gNeg, gPlus, DL.gSub, gCmp, gInt, gAbs, gTuple, gMax, gMin, gGcd, LIM, gIx, y1, y2, y3, y4, rc1, rc2]
  have c10 : (fSet 3 (fCall F__law_plus (fConsA (fCall F_read_level (fConsA (fVar 8) (fConsA (fVar 1) fNilA))) (fConsA (fCall F_read_level (fConsA (fVar 8) (fConsA (fVar 5) fNilA))) fNilA)))) ⟨[some (.cel 0), some (.dat (T5 i1 q1 u1 v1 n1)), some (.dat (T2 ((I * i3 - (Q * q3 + U * u3 + V * v3)) / rg (I * i3 - (Q * q3 + U * u3 + V * v3)) (N * n3)) (N * n3 / rg (I * i3 - (Q * q3 + U * u3 + V * v3)) (N * n3)))), none, none, some (.dat (T5 i2 q2 u2 v2 n2)), some (.dat (T5 i3 q3 u3 v3 n3)), some (.dat (T2 p r)), some (.dat (T4 a b c d)), some (.dat (T5 i3 q3 u3 v3 n3)), some (.dat (T5 0 0 0 0 1))], [t5]⟩ = some (.nx ⟨[some (.cel 0), some (.dat (T5 i1 q1 u1 v1 n1)), some (.dat (T2 ((I * i3 - (Q * q3 + U * u3 + V * v3)) / rg (I * i3 - (Q * q3 + U * u3 + V * v3)) (N * n3)) (N * n3 / rg (I * i3 - (Q * q3 + U * u3 + V * v3)) (N * n3)))), some (.dat (T2 ((a * I + b * Q + c * U + d * V) / rg (a * I + b * Q + c * U + d * V) N) (N / rg (a * I + b * Q + c * U + d * V) N))), none, some (.dat (T5 i2 q2 u2 v2 n2)), some (.dat (T5 i3 q3 u3 v3 n3)), some (.dat (T2 p r)), some (.dat (T4 a b c d)), some (.dat (T5 i3 q3 u3 v3 n3)), some (.dat (T5 0 0 0 0 1))], [t5]⟩) := by
    simp only [fZip, zipD, gSum, intsOf, List.foldl_cons, List.foldl_nil, mkF, fRet, fRetL, fRetN, fSkip, fSeq, fNever, fSet, fAsg, fNew, fIfS, fDrop, fPar, fPar3, fSetc, fSetc2, fVar, fLit, fOp, fUn, fTup, fTup.datsOf, fLst, fNilA, fConsA, fStarA, fCelA, fOfL, fTru, fAndT, fOrT, fNotT, fAndV, fOrV, fNotV, fIf, fBi, fCall, fCallL, fCallFr, fPerm, callF, celOf, celsOk, norm, aName, aNil, aCons, aTup, setD, fSl, fIt, fItL, fItT, fFor, forGo, fLc, lcGo, fYes, wipeD, fCix, fList, fSlL, fPart, fNoPart, fChain, List.length_cons, List.length_nil, List.getElem?_cons_zero, List.getElem?_cons_succ, List.getElem?_nil, List.set_cons_zero, List.set_cons_succ, List.map_cons, List.map_nil, List.cons_append, List.nil_append, List.append_nil, List.replicate, List.take_zero, List.take_nil, List.take_succ_cons, ↓bsome, ↓msome, Option.bind_some, Option.map_some, Option.bind_none, Option.map_none, Nat.sub_self, Int.cast_ofNat_Int, Nat.reduceAdd, Nat.reduceMul, Nat.reduceSub, Nat.reduceLeDiff, Nat.reduceLT, Nat.zero_add, Nat.add_zero, and_self, and_true, true_and, if_true, if_false, ↓reduceIte, ite_true, Bool.true_eq_false, Bool.false_eq_true, beq_self_eq_true, Bool.and_self, Bool.not_true, Bool.not_false, decide_true, decide_false, gLen, gTyIs, gTyNot, tyOf, gNeg, gPlus, DL.gSub, gCmp, gInt, gAbs, gTuple, gMax, gMin, gGcd, LIM, gIx, x1, x2, x4]
  have c11 : (fIfS (fTru (fOp gNe (fBi gRepr (fConsA (fCall F_read_level (fConsA (fVar 8) (fConsA (fCall F_added (fConsA (fVar 1) (fConsA (fVar 5) fNilA))) fNilA))) fNilA)) (fBi gRepr (fConsA (fVar 3) fNilA)))) (fRet (fLit (.bool false))) fSkip) ⟨[some (.cel 0), some (.dat (T5 i1 q1 u1 v1 n1)), some (.dat (T2 ((I * i3 - (Q * q3 + U * u3 + V * v3)) / rg (I * i3 - (Q * q3 + U * u3 + V * v3)) (N * n3)) (N * n3 / rg (I * i3 - (Q * q3 + U * u3 + V * v3)) (N * n3)))), some (.dat (T2 ((a * I + b * Q + c * U + d * V) / rg (a * I + b * Q + c * U + d * V) N) (N / rg (a * I + b * Q + c * U + d * V) N))), none, some (.dat (T5 i2 q2 u2 v2 n2)), some (.dat (T5 i3 q3 u3 v3 n3)), some (.dat (T2 p r)), some (.dat (T4 a b c d)), some (.dat (T5 i3 q3 u3 v3 n3)), some (.dat (T5 0 0 0 0 1))], [t5]⟩ = some (.nx ⟨[some (.cel 0), some (.dat (T5 i1 q1 u1 v1 n1)), some (.dat (T2 ((I * i3 - (Q * q3 + U * u3 + V * v3)) / rg (I * i3 - (Q * q3 + U * u3 + V * v3)) (N * n3)) (N * n3 / rg (I * i3 - (Q * q3 + U * u3 + V * v3)) (N * n3)))), some (.dat (T2 ((a * I + b * Q + c * U + d * V) / rg (a * I + b * Q + c * U + d * V) N) (N / rg (a * I + b * Q + c * U + d * V) N))), none, some (.dat (T5 i2 q2 u2 v2 n2)), some (.dat (T5 i3 q3 u3 v3 n3)), some (.dat (T2 p r)), some (.dat (T4 a b c d)), some (.dat (T5 i3 q3 u3 v3 n3)), some (.dat (T5 0 0 0 0 1))], [t5]⟩) := by
    simp only [fZip, zipD, gSum, intsOf, List.foldl_cons, List.foldl_nil, mkF, fRet, fRetL, fRetN, fSkip, fSeq, fNever, fSet, fAsg, fNew, fIfS, fDrop, fPar, fPar3, fSetc, fSetc2, fVar, fLit, fOp, fUn, fTup, fTup.datsOf, fLst, fNilA, fConsA, fStarA, fCelA, fOfL, fTru, fAndT, fOrT, fNotT, fAndV, fOrV, fNotV, fIf, fBi, fCall, fCallL, fCallFr, fPerm, callF, celOf, celsOk, norm, aName, aNil, aCons, aTup, setD, fSl, fIt, fItL, fItT, fFor, forGo, fLc, lcGo, fYes, wipeD, fCix, fList, fSlL, fPart, fNoPart, fChain, List.length_cons, List.length_nil, List.getElem?_cons_zero, List.getElem?_cons_succ, List.getElem?_nil, List.set_cons_zero, List.set_cons_succ, List.map_cons, List.map_nil, List.cons_append, List.nil_append, List.append_nil, List.replicate, List.take_zero, List.take_nil, List.take_succ_cons, ↓bsome, ↓msome, Option.bind_some, Option.map_some, Option.bind_none, Option.map_none, Nat.sub_self, Int.cast_ofNat_Int, Nat.reduceAdd, Nat.reduceMul, Nat.reduceSub, Nat.reduceLeDiff, Nat.reduceLT, Nat.zero_add, Nat.add_zero, and_self, and_true, true_and, if_true, if_false, ↓reduceIte, ite_true, Bool.true_eq_false, Bool.false_eq_true, beq_self_eq_true, Bool.and_self, Bool.not_true, Bool.not_false, decide_true, decide_false, gLen, gTyIs, gTyNot, tyOf, gNeg, gPlus, DL.gSub, gCmp, gInt, gAbs, gTuple, gMax, gMin, gGcd, LIM, gIx, a1, x3, rd1, rd2]
  have c12 : (fSet 4 (fCall F__law_hue (fCelA 0 fNilA))) ⟨[some (.cel 0), some (.dat (T5 i1 q1 u1 v1 n1)), some (.dat (T2 ((I * i3 - (Q * q3 + U * u3 + V * v3)) / rg (I * i3 - (Q * q3 + U * u3 + V * v3)) (N * n3)) (N * n3 / rg (I * i3 - (Q * q3 + U * u3 + V * v3)) (N * n3)))), some (.dat (T2 ((a * I + b * Q + c * U + d * V) / rg (a * I + b * Q + c * U + d * V) N) (N / rg (a * I + b * Q + c * U + d * V) N))), none, some (.dat (T5 i2 q2 u2 v2 n2)), some (.dat (T5 i3 q3 u3 v3 n3)), some (.dat (T2 p r)), some (.dat (T4 a b c d)), some (.dat (T5 i3 q3 u3 v3 n3)), some (.dat (T5 0 0 0 0 1))], [t5]⟩ = some (.nx ⟨[some (.cel 0), some (.dat (T5 i1 q1 u1 v1 n1)), some (.dat (T2 ((I * i3 - (Q * q3 + U * u3 + V * v3)) / rg (I * i3 - (Q * q3 + U * u3 + V * v3)) (N * n3)) (N * n3 / rg (I * i3 - (Q * q3 + U * u3 + V * v3)) (N * n3)))), some (.dat (T2 ((a * I + b * Q + c * U + d * V) / rg (a * I + b * Q + c * U + d * V) N) (N / rg (a * I + b * Q + c * U + d * V) N))), some (.dat (T4 hq hu hv hn)), some (.dat (T5 i2 q2 u2 v2 n2)), some (.dat (T5 i3 q3 u3 v3 n3)), some (.dat (T2 p r)), some (.dat (T4 a b c d)), some (.dat (T5 i3 q3 u3 v3 n3)), some (.dat (T5 0 0 0 0 1))], [t6]⟩) := by
    simp only [fZip, zipD, gSum, intsOf, List.foldl_cons, List.foldl_nil, mkF, fRet, fRetL, fRetN, fSkip, fSeq, fNever, fSet, fAsg, fNew, fIfS, fDrop, fPar, fPar3, fSetc, fSetc2, fVar, fLit, fOp, fUn, fTup, fTup.datsOf, fLst, fNilA, fConsA, fStarA, fCelA, fOfL, fTru, fAndT, fOrT, fNotT, fAndV, fOrV, fNotV, fIf, fBi, fCall, fCallL, fCallFr, fPerm, callF, celOf, celsOk, norm, aName, aNil, aCons, aTup, setD, fSl, fIt, fItL, fItT, fFor, forGo, fLc, lcGo, fYes, wipeD, fCix, fList, fSlL, fPart, fNoPart, fChain, List.length_cons, List.length_nil, List.getElem?_cons_zero, List.getElem?_cons_succ, List.getElem?_nil, List.set_cons_zero, List.set_cons_succ, List.map_cons, List.map_nil, List.cons_append, List.nil_append, List.append_nil, List.replicate, List.take_zero, List.take_nil, List.take_succ_cons, ↓bsome, ↓msome, Option.bind_some, Option.map_some, Option.bind_none, Option.map_none, Nat.sub_self, Int.cast_ofNat_Int, Nat.reduceAdd, Nat.reduceMul, Nat.reduceSub, Nat.reduceLeDiff, Nat.reduceLT, Nat.zero_add, Nat.add_zero, and_self, and_true, true_and, if_true, if_false, ↓reduceIte, ite_true, Bool.true_eq_false, Bool.false_eq_true, beq_self_eq_true, Bool.and_self, Bool.not_true, Bool.not_false, decide_true, decide_false, gLen, gTyIs, gTyNot, tyOf, gNeg, gPlus, DL.gSub, gCmp, gInt, gAbs, gTuple, gMax, gMin, gGcd, LIM, gIx, e6]
  have c13 : (fIfS (fTru (fOp gNe (fBi gRepr (fConsA (fCall F_product (fConsA (fCall F_pure_light (fConsA (fVar 4) fNilA)) (fConsA (fCall F_pure_light (fConsA (fVar 4) fNilA)) fNilA))) fNilA)) (fBi gRepr (fConsA (fTup (fConsA (fLit (.int 0)) (fConsA (fLit (.int 1)) fNilA))) fNilA)))) (fRet (fLit (.bool false))) fSkip) ⟨[some (.cel 0), some (.dat (T5 i1 q1 u1 v1 n1)), some (.dat (T2 ((I * i3 - (Q * q3 + U * u3 + V * v3)) / rg (I * i3 - (Q * q3 + U * u3 + V * v3)) (N * n3)) (N * n3 / rg (I * i3 - (Q * q3 + U * u3 + V * v3)) (N * n3)))), some (.dat (T2 ((a * I + b * Q + c * U + d * V) / rg (a * I + b * Q + c * U + d * V) N) (N / rg (a * I + b * Q + c * U + d * V) N))), some (.dat (T4 hq hu hv hn)), some (.dat (T5 i2 q2 u2 v2 n2)), some (.dat (T5 i3 q3 u3 v3 n3)), some (.dat (T2 p r)), some (.dat (T4 a b c d)), some (.dat (T5 i3 q3 u3 v3 n3)), some (.dat (T5 0 0 0 0 1))], [t6]⟩ = some (.nx ⟨[some (.cel 0), some (.dat (T5 i1 q1 u1 v1 n1)), some (.dat (T2 ((I * i3 - (Q * q3 + U * u3 + V * v3)) / rg (I * i3 - (Q * q3 + U * u3 + V * v3)) (N * n3)) (N * n3 / rg (I * i3 - (Q * q3 + U * u3 + V * v3)) (N * n3)))), some (.dat (T2 ((a * I + b * Q + c * U + d * V) / rg (a * I + b * Q + c * U + d * V) N) (N / rg (a * I + b * Q + c * U + d * V) N))), some (.dat (T4 hq hu hv hn)), some (.dat (T5 i2 q2 u2 v2 n2)), some (.dat (T5 i3 q3 u3 v3 n3)), some (.dat (T2 p r)), some (.dat (T4 a b c d)), some (.dat (T5 i3 q3 u3 v3 n3)), some (.dat (T5 0 0 0 0 1))], [t6]⟩) := by
    simp only [fZip, zipD, gSum, intsOf, List.foldl_cons, List.foldl_nil, mkF, fRet, fRetL, fRetN, fSkip, fSeq, fNever, fSet, fAsg, fNew, fIfS, fDrop, fPar, fPar3, fSetc, fSetc2, fVar, fLit, fOp, fUn, fTup, fTup.datsOf, fLst, fNilA, fConsA, fStarA, fCelA, fOfL, fTru, fAndT, fOrT, fNotT, fAndV, fOrV, fNotV, fIf, fBi, fCall, fCallL, fCallFr, fPerm, callF, celOf, celsOk, norm, aName, aNil, aCons, aTup, setD, fSl, fIt, fItL, fItT, fFor, forGo, fLc, lcGo, fYes, wipeD, fCix, fList, fSlL, fPart, fNoPart, fChain, List.length_cons, List.length_nil, List.getElem?_cons_zero, List.getElem?_cons_succ, List.getElem?_nil, List.set_cons_zero, List.set_cons_succ, List.map_cons, List.map_nil, List.cons_append, List.nil_append, List.append_nil, List.replicate, List.take_zero, List.take_nil, List.take_succ_cons, ↓bsome, ↓msome, Option.bind_some, Option.map_some, Option.bind_none, Option.map_none, Nat.sub_self, Int.cast_ofNat_Int, Nat.reduceAdd, Nat.reduceMul, Nat.reduceSub, Nat.reduceLeDiff, Nat.reduceLT, Nat.zero_add, Nat.add_zero, and_self, and_true, true_and, if_true, if_false, ↓reduceIte, ite_true, Bool.true_eq_false, Bool.false_eq_true, beq_self_eq_true, Bool.and_self, Bool.not_true, Bool.not_false, decide_true, decide_false, gLen, gTyIs, gTyNot, tyOf, gNeg, gPlus, DL.gSub, gCmp, gInt, gAbs, gTuple, gMax, gMin, gGcd, LIM, gIx, k1, k2, re1, re2]
  have c14 : (fRet (fOp gEq (fBi gRepr (fConsA (fCall F_added (fConsA (fVar 1) (fConsA (fTup (fConsA (fLit (.int 0)) (fConsA (fLit (.int 0)) (fConsA (fLit (.int 0)) (fConsA (fLit (.int 0)) (fConsA (fLit (.int 1)) fNilA)))))) fNilA))) fNilA)) (fBi gRepr (fConsA (fVar 1) fNilA)))) ⟨[some (.cel 0), some (.dat (T5 i1 q1 u1 v1 n1)), some (.dat (T2 ((I * i3 - (Q * q3 + U * u3 + V * v3)) / rg (I * i3 - (Q * q3 + U * u3 + V * v3)) (N * n3)) (N * n3 / rg (I * i3 - (Q * q3 + U * u3 + V * v3)) (N * n3)))), some (.dat (T2 ((a * I + b * Q + c * U + d * V) / rg (a * I + b * Q + c * U + d * V) N) (N / rg (a * I + b * Q + c * U + d * V) N))), some (.dat (T4 hq hu hv hn)), some (.dat (T5 i2 q2 u2 v2 n2)), some (.dat (T5 i3 q3 u3 v3 n3)), some (.dat (T2 p r)), some (.dat (T4 a b c d)), some (.dat (T5 i3 q3 u3 v3 n3)), some (.dat (T5 0 0 0 0 1))], [t6]⟩ = some (.rt (.dat (.bool true)) [t6]) := by
    simp only [fZip, zipD, gSum, intsOf, List.foldl_cons, List.foldl_nil, mkF, fRet, fRetL, fRetN, fSkip, fSeq, fNever, fSet, fAsg, fNew, fIfS, fDrop, fPar, fPar3, fSetc, fSetc2, fVar, fLit, fOp, fUn, fTup, fTup.datsOf, fLst, fNilA, fConsA, fStarA, fCelA, fOfL, fTru, fAndT, fOrT, fNotT, fAndV, fOrV, fNotV, fIf, fBi, fCall, fCallL, fCallFr, fPerm, callF, celOf, celsOk, norm, aName, aNil, aCons, aTup, setD, fSl, fIt, fItL, fItT, fFor, forGo, fLc, lcGo, fYes, wipeD, fCix, fList, fSlL, fPart, fNoPart, fChain, List.length_cons, List.length_nil, List.getElem?_cons_zero, List.getElem?_cons_succ, List.getElem?_nil, List.set_cons_zero, List.set_cons_succ, List.map_cons, List.map_nil, List.cons_append, List.nil_append, List.append_nil, List.replicate, List.take_zero, List.take_nil, List.take_succ_cons, ↓bsome, ↓msome, Option.bind_some, Option.map_some, Option.bind_none, Option.map_none, Nat.sub_self, Int.cast_ofNat_Int, Nat.reduceAdd, Nat.reduceMul, Nat.reduceSub, Nat.reduceLeDiff, Nat.reduceLT, Nat.zero_add, Nat.add_zero, and_self, and_true, true_and, if_true, if_false, ↓reduceIte, ite_true, Bool.true_eq_false, Bool.false_eq_true, beq_self_eq_true, Bool.and_self, Bool.not_true, Bool.not_false, decide_true, decide_false, gLen, gTyIs, gTyNot, tyOf, gNeg, gPlus, DL.gSub, gCmp, gInt, gAbs, gTuple, gMax, gMin, gGcd, LIM, gIx, o1, rf1, rf3]
  exact fn_ok (np := 1) (nN := 11) (n0 := 1) ((seq_nx c0).trans ((seq_nx c1).trans ((seq_nx c2).trans ((seq_nx c3).trans ((seq_nx c4).trans ((seq_nx c5).trans ((seq_nx c6).trans ((seq_nx c7).trans ((seq_nx c8).trans ((seq_nx c9).trans ((seq_nx c10).trans ((seq_nx c11).trans ((seq_nx c12).trans ((seq_nx c13).trans (c14))))))))))))))) ⟨rfl, rfl⟩ rfl
end PL


set_option Elab.async false
set_option linter.all false
set_option maxRecDepth 100000
set_option maxHeartbeats 1000000
set_option exponentiation.threshold 20000
namespace PL
open PySem PySem.Spec L2 DL
/-! from the script to what is drawn -/
abbrev TapB : FS := (fSet 2 (fOp gMod (fBi gInt (fConsA (fOp gPlus (fOp gPlus (fOp gMul (fVar 2) (fLit (.int 30757))) (fOp gMod (fBi gInt (fConsA (fVar 3) fNilA)) (fLit (.int 681574421)))) (fLit (.int 41))) fNilA)) (fLit (.int 1000000409))))
theorem tap_1 {x0 x1 x4 : Option SV} {s x : Int} (h0 : 0 ≤ s) (h1 : s < 2 ^ 50) : ∃ s', TapB ⟨[x0, x1, some (.dat (.int s)), some (.dat (.int x)), x4], []⟩ = some (.nx ⟨[x0, x1, some (.dat (.int s')), some (.dat (.int x)), x4], []⟩) ∧ 0 ≤ s' ∧ s' < 2 ^ 50 := by
  have m1 := gMul_sm h0 (by omega) (by decide : (0 : Int) ≤ 30757) (by decide)
  have d1 : gMod (.int x) (.int 681574421) = some (.int (x % 681574421)) := gMod_ok (by decide)
  have d2 := fun i : Int => gMod_ok (i := i) (by decide : (0 : Int) < 1000000409)
  refine ⟨(s * 30757 + x % 681574421 + 41) % 1000000409, ?_, by omega, by omega⟩
  simp only [fZip, zipD, gSum, intsOf, List.foldl_cons, List.foldl_nil, mkF, fRet, fRetL, fRetN, fSkip, fSeq, fNever, fSet, fAsg, fNew, fIfS, fDrop, fPar, fPar3, fSetc, fSetc2, fVar, fLit, fOp, fUn, fTup, fTup.datsOf, fLst, fNilA, fConsA, fStarA, fCelA, fOfL, fTru, fAndT, fOrT, fNotT, fAndV, fOrV, fNotV, fIf, fBi, fCall, fCallL, fCallFr, fPerm, callF, celOf, celsOk, norm, aName, aNil, aCons, aTup, setD, fSl, fIt, fItL, fItT, fFor, forGo, fLc, lcGo, fYes, wipeD, fCix, fList, fSlL, fPart, fNoPart, fChain, List.length_cons, List.length_nil, List.getElem?_cons_zero, List.getElem?_cons_succ, List.getElem?_nil, List.set_cons_zero, List.set_cons_succ, List.map_cons, List.map_nil, List.cons_append, List.nil_append, List.append_nil, List.replicate, List.take_zero, List.take_nil, List.take_succ_cons, ↓bsome, ↓msome, Option.bind_some, Option.map_some, Option.bind_none, Option.map_none, Nat.sub_self, Int.cast_ofNat_Int, Nat.reduceAdd, Nat.reduceMul, Nat.reduceSub, Nat.reduceLeDiff, Nat.reduceLT, Nat.zero_add, Nat.add_zero, and_self, and_true, true_and, if_true, if_false, ↓reduceIte, ite_true, Bool.true_eq_false, Bool.false_eq_true, beq_self_eq_true, Bool.and_self, Bool.not_true, Bool.not_false, decide_true, decide_false, gLen, gTyIs, gTyNot, tyOf, gNeg, gPlus, DL.gSub, gCmp, gInt, gAbs, gTuple, gMax, gMin, gGcd, LIM, gIx, m1, d1, d2]
theorem tap_for {x0 x1 x4 : Option SV} : ∀ (ms : List Int) (s : Int) (x3 : Option SV), 0 ≤ s → s < 2 ^ 50 → ∃ s' y3, forGo (aName 3) TapB (ms.map .int) ⟨[x0, x1, some (.dat (.int s)), x3, x4], []⟩ = some (.nx ⟨[x0, x1, some (.dat (.int s')), y3, x4], []⟩) ∧ 0 ≤ s' ∧ s' < 2 ^ 50
  | [], s, x3, h0, h1 => ⟨s, x3, rfl, h0, h1⟩
  | x :: ms, s, x3, h0, h1 => by
    obtain ⟨s1, e, g0, g1⟩ := tap_1 (x0 := x0) (x1 := x1) (x4 := x4) (x := x) h0 h1
    obtain ⟨s2, y3, ih, k0, k1⟩ := tap_for (x0 := x0) (x1 := x1) (x4 := x4) ms s1 (some (.dat (.int x))) g0 g1
    refine ⟨s2, y3, ?_, k0, k1⟩
    generalize TapB = b at e ih ⊢
    simp only [List.map_cons, forGo, aName, setD, List.set_cons_succ, List.set_cons_zero, Option.bind_some, e]
    exact ih
theorem cut_ints (ns : List Int) (lo hi : Option Int) : ∃ ms : List Int, cutD (ns.map PyData.int) lo hi = ms.map PyData.int := by
  unfold cutD
  rw [← List.map_drop, ← List.map_take]
  exact ⟨_, rfl⟩
theorem pow18 : gPow (.int 10) (.int 18) = some (.int 1000000000000000000) := rfl
theorem e_tap {ns : List Int} {k : Int} (h0 : 0 ≤ k) (h1 : k < 1000) : ∃ t, F__law_tap [.dat (.list (ns.map .int)), .dat (.int k)] [] = some (.new t, []) ∧ Tap 100000 t := by
  have m1 := gMul_sm (by decide : (0 : Int) ≤ 6121) (by decide) h0 (by omega)
  obtain ⟨ms, em⟩ := cut_ints ns none (some 63)
  obtain ⟨s, y3, ef, s0, s1⟩ := tap_for (x0 := some (.dat (.list (ns.map .int)))) (x1 := some (.dat (.int k))) (x4 := none) ms (20011 + 6121 * k) none (by omega) (by omega)
  have a1 : (fSet 2 (fOp gPlus (fLit (.int 20011)) (fOp gMul (fLit (.int 6121)) (fVar 1)))) ⟨[some (.dat (.list (ns.map .int))), some (.dat (.int k)), none, none, none], []⟩ = some (.nx ⟨[some (.dat (.list (ns.map .int))), some (.dat (.int k)), some (.dat (.int (20011 + 6121 * k))), none, none], []⟩) := by
    simp only [fZip, zipD, gSum, intsOf, List.foldl_cons, List.foldl_nil, mkF, fRet, fRetL, fRetN, fSkip, fSeq, fNever, fSet, fAsg, fNew, fIfS, fDrop, fPar, fPar3, fSetc, fSetc2, fVar, fLit, fOp, fUn, fTup, fTup.datsOf, fLst, fNilA, fConsA, fStarA, fCelA, fOfL, fTru, fAndT, fOrT, fNotT, fAndV, fOrV, fNotV, fIf, fBi, fCall, fCallL, fCallFr, fPerm, callF, celOf, celsOk, norm, aName, aNil, aCons, aTup, setD, fSl, fIt, fItL, fItT, fFor, forGo, fLc, lcGo, fYes, wipeD, fCix, fList, fSlL, fPart, fNoPart, fChain, List.length_cons, List.length_nil, List.getElem?_cons_zero, List.getElem?_cons_succ, List.getElem?_nil, List.set_cons_zero, List.set_cons_succ, List.map_cons, List.map_nil, List.cons_append, List.nil_append, List.append_nil, List.replicate, List.take_zero, List.take_nil, List.take_succ_cons, ↓bsome, ↓msome, Option.bind_some, Option.map_some, Option.bind_none, Option.map_none, Nat.sub_self, Int.cast_ofNat_Int, Nat.reduceAdd, Nat.reduceMul, Nat.reduceSub, Nat.reduceLeDiff, Nat.reduceLT, Nat.zero_add, Nat.add_zero, and_self, and_true, true_and, if_true, if_false, ↓reduceIte, ite_true, Bool.true_eq_false, Bool.false_eq_true, beq_self_eq_true, Bool.and_self, Bool.not_true, Bool.not_false, decide_true, decide_false, gLen, gTyIs, gTyNot, tyOf, gNeg, gPlus, DL.gSub, gCmp, gInt, gAbs, gTuple, gMax, gMin, gGcd, LIM, gIx, m1]
  have a2 : (fFor (fIt (fSl (fVar 0) fNoPart (fPart (fLit (.int 63))))) (aName 3) TapB) ⟨[some (.dat (.list (ns.map .int))), some (.dat (.int k)), some (.dat (.int (20011 + 6121 * k))), none, none], []⟩ = some (.nx ⟨[some (.dat (.list (ns.map .int))), some (.dat (.int k)), some (.dat (.int s)), y3, none], []⟩) := by
    have ei : (fIt (fSl (fVar 0) fNoPart (fPart (fLit (.int 63))))) ⟨[some (.dat (.list (ns.map .int))), some (.dat (.int k)), some (.dat (.int (20011 + 6121 * k))), none, none], []⟩ = some (ms.map .int, []) := by
      simp only [fZip, zipD, gSum, intsOf, List.foldl_cons, List.foldl_nil, mkF, fRet, fRetL, fRetN, fSkip, fSeq, fNever, fSet, fAsg, fNew, fIfS, fDrop, fPar, fPar3, fSetc, fSetc2, fVar, fLit, fOp, fUn, fTup, fTup.datsOf, fLst, fNilA, fConsA, fStarA, fCelA, fOfL, fTru, fAndT, fOrT, fNotT, fAndV, fOrV, fNotV, fIf, fBi, fCall, fCallL, fCallFr, fPerm, callF, celOf, celsOk, norm, aName, aNil, aCons, aTup, setD, fSl, fIt, fItL, fItT, fFor, forGo, fLc, lcGo, fYes, wipeD, fCix, fList, fSlL, fPart, fNoPart, fChain, List.length_cons, List.length_nil, List.getElem?_cons_zero, List.getElem?_cons_succ, List.getElem?_nil, List.set_cons_zero, List.set_cons_succ, List.map_cons, List.map_nil, List.cons_append, List.nil_append, List.append_nil, List.replicate, List.take_zero, List.take_nil, List.take_succ_cons, ↓bsome, ↓msome, Option.bind_some, Option.map_some, Option.bind_none, Option.map_none, Nat.sub_self, Int.cast_ofNat_Int, Nat.reduceAdd, Nat.reduceMul, Nat.reduceSub, Nat.reduceLeDiff, Nat.reduceLT, Nat.zero_add, Nat.add_zero, and_self, and_true, true_and, if_true, if_false, ↓reduceIte, ite_true, Bool.true_eq_false, Bool.false_eq_true, beq_self_eq_true, Bool.and_self, Bool.not_true, Bool.not_false, decide_true, decide_false, gLen, gTyIs, gTyNot, tyOf, gNeg, gPlus, DL.gSub, gCmp, gInt, gAbs, gTuple, gMax, gMin, gGcd, LIM, gIx, em]
    unfold fFor
    rw [ei]
    exact ef
  have own : ∃ x : Int, (fSet 4 (fIf (fTru (fOp (gCmp fun i j => decide (i < j)) (fVar 1) (fBi gLen (fConsA (fVar 0) fNilA)))) (fBi gInt (fConsA (fOp gIx (fVar 0) (fVar 1)) fNilA)) (fLit (.int 0)))) ⟨[some (.dat (.list (ns.map .int))), some (.dat (.int k)), some (.dat (.int s)), y3, none], []⟩ = some (.nx ⟨[some (.dat (.list (ns.map .int))), some (.dat (.int k)), some (.dat (.int s)), y3, some (.dat (.int x))], []⟩) := by
    by_cases hk : k < ((ns.map PyData.int).length : Nat)
    · obtain ⟨x, hx, ex⟩ := atI_in h0 hk
      obtain ⟨n, hn, rfl⟩ := List.mem_map.mp hx
      refine ⟨n, ?_⟩
      simp only [fZip, zipD, gSum, intsOf, List.foldl_cons, List.foldl_nil, mkF, fRet, fRetL, fRetN, fSkip, fSeq, fNever, fSet, fAsg, fNew, fIfS, fDrop, fPar, fPar3, fSetc, fSetc2, fVar, fLit, fOp, fUn, fTup, fTup.datsOf, fLst, fNilA, fConsA, fStarA, fCelA, fOfL, fTru, fAndT, fOrT, fNotT, fAndV, fOrV, fNotV, fIf, fBi, fCall, fCallL, fCallFr, fPerm, callF, celOf, celsOk, norm, aName, aNil, aCons, aTup, setD, fSl, fIt, fItL, fItT, fFor, forGo, fLc, lcGo, fYes, wipeD, fCix, fList, fSlL, fPart, fNoPart, fChain, List.length_cons, List.length_nil, List.getElem?_cons_zero, List.getElem?_cons_succ, List.getElem?_nil, List.set_cons_zero, List.set_cons_succ, List.map_cons, List.map_nil, List.cons_append, List.nil_append, List.append_nil, List.replicate, List.take_zero, List.take_nil, List.take_succ_cons, ↓bsome, ↓msome, Option.bind_some, Option.map_some, Option.bind_none, Option.map_none, Nat.sub_self, Int.cast_ofNat_Int, Nat.reduceAdd, Nat.reduceMul, Nat.reduceSub, Nat.reduceLeDiff, Nat.reduceLT, Nat.zero_add, Nat.add_zero, and_self, and_true, true_and, if_true, if_false, ↓reduceIte, ite_true, Bool.true_eq_false, Bool.false_eq_true, beq_self_eq_true, Bool.and_self, Bool.not_true, Bool.not_false, decide_true, decide_false, gLen, gTyIs, gTyNot, tyOf, gNeg, gPlus, DL.gSub, gCmp, gInt, gAbs, gTuple, gMax, gMin, gGcd, LIM, gIx, hk, gIx, ex]
    · refine ⟨0, ?_⟩
      simp only [fZip, zipD, gSum, intsOf, List.foldl_cons, List.foldl_nil, mkF, fRet, fRetL, fRetN, fSkip, fSeq, fNever, fSet, fAsg, fNew, fIfS, fDrop, fPar, fPar3, fSetc, fSetc2, fVar, fLit, fOp, fUn, fTup, fTup.datsOf, fLst, fNilA, fConsA, fStarA, fCelA, fOfL, fTru, fAndT, fOrT, fNotT, fAndV, fOrV, fNotV, fIf, fBi, fCall, fCallL, fCallFr, fPerm, callF, celOf, celsOk, norm, aName, aNil, aCons, aTup, setD, fSl, fIt, fItL, fItT, fFor, forGo, fLc, lcGo, fYes, wipeD, fCix, fList, fSlL, fPart, fNoPart, fChain, List.length_cons, List.length_nil, List.getElem?_cons_zero, List.getElem?_cons_succ, List.getElem?_nil, List.set_cons_zero, List.set_cons_succ, List.map_cons, List.map_nil, List.cons_append, List.nil_append, List.append_nil, List.replicate, List.take_zero, List.take_nil, List.take_succ_cons, ↓bsome, ↓msome, Option.bind_some, Option.map_some, Option.bind_none, Option.map_none, Nat.sub_self, Int.cast_ofNat_Int, Nat.reduceAdd, Nat.reduceMul, Nat.reduceSub, Nat.reduceLeDiff, Nat.reduceLT, Nat.zero_add, Nat.add_zero, and_self, and_true, true_and, if_true, if_false, ↓reduceIte, ite_true, Bool.true_eq_false, Bool.false_eq_true, beq_self_eq_true, Bool.and_self, Bool.not_true, Bool.not_false, decide_true, decide_false, gLen, gTyIs, gTyNot, tyOf, gNeg, gPlus, DL.gSub, gCmp, gInt, gAbs, gTuple, gMax, gMin, gGcd, LIM, gIx, hk]
  obtain ⟨x, a3⟩ := own
  have ea : (if x < 0 then -x else x) = ((x.natAbs : Nat) : Int) := by split <;> omega
  have m2 : gMul (.int 5) (.int (x % 93199987)) = some (.int (5 * (x % 93199987))) := gMul_sm (by decide) (by decide) (by omega) (by omega)
  have d1 : gMod (.int x) (.int 93199987) = some (.int (x % 93199987)) := gMod_ok (by decide)
  have d2 := fun i : Int => gMod_ok (i := i) (by decide : (0 : Int) < 1000000409)
  have e0 : b__law_tap = fSeq (fSet 2 (fOp gPlus (fLit (.int 20011)) (fOp gMul (fLit (.int 6121)) (fVar 1)))) (fSeq (fFor (fIt (fSl (fVar 0) fNoPart (fPart (fLit (.int 63))))) (aName 3) TapB) (fSeq (fSet 4 (fIf (fTru (fOp (gCmp fun i j => decide (i < j)) (fVar 1) (fBi gLen (fConsA (fVar 0) fNilA)))) (fBi gInt (fConsA (fOp gIx (fVar 0) (fVar 1)) fNilA)) (fLit (.int 0)))) (fRetL (fLst (fConsA (fIf (fTru (fOp (gCmp fun i j => decide (j ≤ i)) (fBi gAbs (fConsA (fVar 4) fNilA)) (fOp gPow (fLit (.int 10)) (fLit (.int 18))))) (fBi gAbs (fConsA (fVar 4) fNilA)) (fLit (.int 0))) (fConsA (fOp gMod (fBi gInt (fConsA (fOp gPlus (fVar 2) (fOp gMul (fLit (.int 5)) (fOp gMod (fBi gInt (fConsA (fVar 4) fNilA)) (fLit (.int 93199987))))) fNilA)) (fLit (.int 1000000409))) (fConsA (fLit (.int 0)) fNilA))))))) := rfl
  by_cases hb : (1000000000000000000 : Int) ≤ ((x.natAbs : Nat) : Int)
  · refine ⟨L3 ((x.natAbs : Nat) : Int) ((s + 5 * (x % 93199987)) % 1000000409) 0, ?_, _, _, _, rfl, by omega, by omega, by omega, by decide, by decide⟩
    refine fn_ok (np := 2) (nN := 5) (n0 := 0) (c := []) ?_ ⟨rfl, rfl⟩ rfl
    rw [e0]
    refine (seq_nx a1).trans ((seq_nx a2).trans ((seq_nx a3).trans ?_))
    simp only [fZip, zipD, gSum, intsOf, List.foldl_cons, List.foldl_nil, mkF, fRet, fRetL, fRetN, fSkip, fSeq, fNever, fSet, fAsg, fNew, fIfS, fDrop, fPar, fPar3, fSetc, fSetc2, fVar, fLit, fOp, fUn, fTup, fTup.datsOf, fLst, fNilA, fConsA, fStarA, fCelA, fOfL, fTru, fAndT, fOrT, fNotT, fAndV, fOrV, fNotV, fIf, fBi, fCall, fCallL, fCallFr, fPerm, callF, celOf, celsOk, norm, aName, aNil, aCons, aTup, setD, fSl, fIt, fItL, fItT, fFor, forGo, fLc, lcGo, fYes, wipeD, fCix, fList, fSlL, fPart, fNoPart, fChain, List.length_cons, List.length_nil, List.getElem?_cons_zero, List.getElem?_cons_succ, List.getElem?_nil, List.set_cons_zero, List.set_cons_succ, List.map_cons, List.map_nil, List.cons_append, List.nil_append, List.append_nil, List.replicate, List.take_zero, List.take_nil, List.take_succ_cons, ↓bsome, ↓msome, Option.bind_some, Option.map_some, Option.bind_none, Option.map_none, Nat.sub_self, Int.cast_ofNat_Int, Nat.reduceAdd, Nat.reduceMul, Nat.reduceSub, Nat.reduceLeDiff, Nat.reduceLT, Nat.zero_add, Nat.add_zero, and_self, and_true, true_and, if_true, if_false, ↓reduceIte, ite_true, Bool.true_eq_false, Bool.false_eq_true, beq_self_eq_true, Bool.and_self, Bool.not_true, Bool.not_false, decide_true, decide_false, gLen, gTyIs, gTyNot, tyOf, gNeg, gPlus, DL.gSub, gCmp, gInt, gAbs, gTuple, gMax, gMin, gGcd, LIM, gIx, ea, pow18, hb, m2, d1, d2]
  · refine ⟨L3 0 ((s + 5 * (x % 93199987)) % 1000000409) 0, ?_, _, _, _, rfl, by decide, by omega, by omega, by decide, by decide⟩
    refine fn_ok (np := 2) (nN := 5) (n0 := 0) (c := []) ?_ ⟨rfl, rfl⟩ rfl
    rw [e0]
    refine (seq_nx a1).trans ((seq_nx a2).trans ((seq_nx a3).trans ?_))
    simp only [fZip, zipD, gSum, intsOf, List.foldl_cons, List.foldl_nil, mkF, fRet, fRetL, fRetN, fSkip, fSeq, fNever, fSet, fAsg, fNew, fIfS, fDrop, fPar, fPar3, fSetc, fSetc2, fVar, fLit, fOp, fUn, fTup, fTup.datsOf, fLst, fNilA, fConsA, fStarA, fCelA, fOfL, fTru, fAndT, fOrT, fNotT, fAndV, fOrV, fNotV, fIf, fBi, fCall, fCallL, fCallFr, fPerm, callF, celOf, celsOk, norm, aName, aNil, aCons, aTup, setD, fSl, fIt, fItL, fItT, fFor, forGo, fLc, lcGo, fYes, wipeD, fCix, fList, fSlL, fPart, fNoPart, fChain, List.length_cons, List.length_nil, List.getElem?_cons_zero, List.getElem?_cons_succ, List.getElem?_nil, List.set_cons_zero, List.set_cons_succ, List.map_cons, List.map_nil, List.cons_append, List.nil_append, List.append_nil, List.replicate, List.take_zero, List.take_nil, List.take_succ_cons, ↓bsome, ↓msome, Option.bind_some, Option.map_some, Option.bind_none, Option.map_none, Nat.sub_self, Int.cast_ofNat_Int, Nat.reduceAdd, Nat.reduceMul, Nat.reduceSub, Nat.reduceLeDiff, Nat.reduceLT, Nat.zero_add, Nat.add_zero, and_self, and_true, true_and, if_true, if_false, ↓reduceIte, ite_true, Bool.true_eq_false, Bool.false_eq_true, beq_self_eq_true, Bool.and_self, Bool.not_true, Bool.not_false, decide_true, decide_false, gLen, gTyIs, gTyNot, tyOf, gNeg, gPlus, DL.gSub, gCmp, gInt, gAbs, gTuple, gMax, gMin, gGcd, LIM, gIx, ea, pow18, hb, m2, d1, d2]
/-! the law, over what checks one turn -/
abbrev lawR (m : Int) : FL := (fRng1 (fConsA (fCall F__law_turns (fConsA (fVar 0) (fConsA (fLit (.int m)) fNilA))) fNilA))
abbrev lawE (FR : FnS) : FE := (fCallFr FR (fCallL F__law_tap (fConsA (fVar 0) (fConsA (fVar 1) fNilA))))
def lawB (FR : FnS) (m : Int) : FS := (fRet (fBi gAll (fConsA (fOfL (fLc (lawR m) (aName 1) fYes (lawE FR) [1])) fNilA)))
theorem lawE_ok {FR : FnS} {ns : List Int} (hR : ∀ t, Tap 100000 t → ∃ c, FR [.cel 0] [t] = some (.dat (.bool true), c)) {k : Int} (h0 : 0 ≤ k) (h1 : k < 1000) : lawE FR ⟨[some (.dat (.list (ns.map PyData.int))), some (.dat (.int k))], []⟩ = some (.bool true, []) := by
  obtain ⟨t, e, ht⟩ := e_tap (ns := ns) h0 h1
  obtain ⟨c, e2⟩ := hR t ht
  simp only [fZip, zipD, gSum, intsOf, List.foldl_cons, List.foldl_nil, mkF, fRet, fRetL, fRetN, fSkip, fSeq, fNever, fSet, fAsg, fNew, fIfS, fDrop, fPar, fPar3, fSetc, fSetc2, fVar, fLit, fOp, fUn, fTup, fTup.datsOf, fLst, fNilA, fConsA, fStarA, fCelA, fOfL, fTru, fAndT, fOrT, fNotT, fAndV, fOrV, fNotV, fIf, fBi, fCall, fCallL, fCallFr, fPerm, callF, celOf, celsOk, norm, aName, aNil, aCons, aTup, setD, fSl, fIt, fItL, fItT, fFor, forGo, fLc, lcGo, fYes, wipeD, fCix, fList, fSlL, fPart, fNoPart, fChain, List.length_cons, List.length_nil, List.getElem?_cons_zero, List.getElem?_cons_succ, List.getElem?_nil, List.set_cons_zero, List.set_cons_succ, List.map_cons, List.map_nil, List.cons_append, List.nil_append, List.append_nil, List.replicate, List.take_zero, List.take_nil, List.take_succ_cons, ↓bsome, ↓msome, Option.bind_some, Option.map_some, Option.bind_none, Option.map_none, Nat.sub_self, Int.cast_ofNat_Int, Nat.reduceAdd, Nat.reduceMul, Nat.reduceSub, Nat.reduceLeDiff, Nat.reduceLT, Nat.zero_add, Nat.add_zero, and_self, and_true, true_and, if_true, if_false, ↓reduceIte, ite_true, Bool.true_eq_false, Bool.false_eq_true, beq_self_eq_true, Bool.and_self, Bool.not_true, Bool.not_false, decide_true, decide_false, gLen, gTyIs, gTyNot, tyOf, gNeg, gPlus, DL.gSub, gCmp, gInt, gAbs, gTuple, gMax, gMin, gGcd, LIM, gIx, e, e2]
theorem law_go {FR : FnS} {ns : List Int} (hR : ∀ t, Tap 100000 t → ∃ c, FR [.cel 0] [t] = some (.dat (.bool true), c)) : ∀ ks : List Nat, (∀ k ∈ ks, k < 1000) → lcGo (aName 1) fYes (lawE FR) [some (.dat (.list (ns.map PyData.int))), none] (ks.map fun i => PyData.int (0 + (i : Nat))) [] = some (ks.map fun _ => PyData.bool true, [])
  | [], _ => rfl
  | k :: ks, h => by
    have ih := law_go (ns := ns) hR ks fun j hj => h j (List.mem_cons_of_mem _ hj)
    have hk := h k (List.mem_cons_self ..)
    have e := lawE_ok (ns := ns) hR (k := 0 + (k : Nat)) (by omega) (by omega)
    generalize lawE FR = eb at e ih ⊢
    simp only [lcGo, List.map_cons, aName, fYes, setD, List.set_cons_zero, List.set_cons_succ, Option.bind_some, if_true, e, ih, Option.map_some]
theorem bools_true {α : Type} : ∀ ks : List α, boolsOf (ks.map fun _ => PyData.bool true) = some (ks.map fun _ => true)
  | [] => rfl
  | k :: ks => by
    show (boolsOf (ks.map fun _ => PyData.bool true)).map (true :: ·) = _
    rw [bools_true ks]; rfl
theorem e_turns (ns : List Int) {m : Int} (h0 : 0 ≤ m) (h1 : m ≤ 100) : ∃ n : Nat, n ≤ 100 ∧ F__law_turns [.dat (.list (ns.map .int)), .dat (.int m)] [] = some (.dat (.int (n : Nat)), []) := by
  have h : ∃ n : Nat, n ≤ 100 ∧ (if (if m < (((ns.map PyData.int).length : Nat) : Int) then m else (((ns.map PyData.int).length : Nat) : Int)) > 2 then (if m < (((ns.map PyData.int).length : Nat) : Int) then m else (((ns.map PyData.int).length : Nat) : Int)) else 2) = (n : Nat) := by
    refine ⟨(if (if m < (((ns.map PyData.int).length : Nat) : Int) then m else (((ns.map PyData.int).length : Nat) : Int)) > 2 then (if m < (((ns.map PyData.int).length : Nat) : Int) then m else (((ns.map PyData.int).length : Nat) : Int)) else 2).toNat, ?_, ?_⟩ <;> (split <;> split <;> omega)
  obtain ⟨n, h4, e⟩ := h
  refine ⟨n, h4, ?_⟩
  simp only [fZip, zipD, gSum, intsOf, List.foldl_cons, List.foldl_nil, mkF, fRet, fRetL, fRetN, fSkip, fSeq, fNever, fSet, fAsg, fNew, fIfS, fDrop, fPar, fPar3, fSetc, fSetc2, fVar, fLit, fOp, fUn, fTup, fTup.datsOf, fLst, fNilA, fConsA, fStarA, fCelA, fOfL, fTru, fAndT, fOrT, fNotT, fAndV, fOrV, fNotV, fIf, fBi, fCall, fCallL, fCallFr, fPerm, callF, celOf, celsOk, norm, aName, aNil, aCons, aTup, setD, fSl, fIt, fItL, fItT, fFor, forGo, fLc, lcGo, fYes, wipeD, fCix, fList, fSlL, fPart, fNoPart, fChain, List.length_cons, List.length_nil, List.getElem?_cons_zero, List.getElem?_cons_succ, List.getElem?_nil, List.set_cons_zero, List.set_cons_succ, List.map_cons, List.map_nil, List.cons_append, List.nil_append, List.append_nil, List.replicate, List.take_zero, List.take_nil, List.take_succ_cons, ↓bsome, ↓msome, Option.bind_some, Option.map_some, Option.bind_none, Option.map_none, Nat.sub_self, Int.cast_ofNat_Int, Nat.reduceAdd, Nat.reduceMul, Nat.reduceSub, Nat.reduceLeDiff, Nat.reduceLT, Nat.zero_add, Nat.add_zero, and_self, and_true, true_and, if_true, if_false, ↓reduceIte, ite_true, Bool.true_eq_false, Bool.false_eq_true, beq_self_eq_true, Bool.and_self, Bool.not_true, Bool.not_false, decide_true, decide_false, gLen, gTyIs, gTyNot, tyOf, gNeg, gPlus, DL.gSub, gCmp, gInt, gAbs, gTuple, gMax, gMin, gGcd, LIM, gIx, F__law_turns, b__law_turns, e]
theorem law_ok {FR : FnS} {m : Int} (h0 : 0 ≤ m) (h1 : m ≤ 100) (hR : ∀ t, Tap 100000 t → ∃ c, FR [.cel 0] [t] = some (.dat (.bool true), c)) (ns : List Int) : ∃ c, mkF 1 2 0 (lawB FR m) [.dat (.list (ns.map PyData.int))] [] = some (.dat (.bool true), c) := by
  obtain ⟨n, hn, et⟩ := e_turns ns h0 h1
  have e : lawR m ⟨[some (.dat (.list (ns.map PyData.int))), none], []⟩ = some (rangeD 0 n, []) := rg_of (J := n) (by simp only [fZip, zipD, gSum, intsOf, List.foldl_cons, List.foldl_nil, mkF, fRet, fRetL, fRetN, fSkip, fSeq, fNever, fSet, fAsg, fNew, fIfS, fDrop, fPar, fPar3, fSetc, fSetc2, fVar, fLit, fOp, fUn, fTup, fTup.datsOf, fLst, fNilA, fConsA, fStarA, fCelA, fOfL, fTru, fAndT, fOrT, fNotT, fAndV, fOrV, fNotV, fIf, fBi, fCall, fCallL, fCallFr, fPerm, callF, celOf, celsOk, norm, aName, aNil, aCons, aTup, setD, fSl, fIt, fItL, fItT, fFor, forGo, fLc, lcGo, fYes, wipeD, fCix, fList, fSlL, fPart, fNoPart, fChain, List.length_cons, List.length_nil, List.getElem?_cons_zero, List.getElem?_cons_succ, List.getElem?_nil, List.set_cons_zero, List.set_cons_succ, List.map_cons, List.map_nil, List.cons_append, List.nil_append, List.append_nil, List.replicate, List.take_zero, List.take_nil, List.take_succ_cons, ↓bsome, ↓msome, Option.bind_some, Option.map_some, Option.bind_none, Option.map_none, Nat.sub_self, Int.cast_ofNat_Int, Nat.reduceAdd, Nat.reduceMul, Nat.reduceSub, Nat.reduceLeDiff, Nat.reduceLT, Nat.zero_add, Nat.add_zero, and_self, and_true, true_and, if_true, if_false, ↓reduceIte, ite_true, Bool.true_eq_false, Bool.false_eq_true, beq_self_eq_true, Bool.and_self, Bool.not_true, Bool.not_false, decide_true, decide_false, gLen, gTyIs, gTyNot, tyOf, gNeg, gPlus, DL.gSub, gCmp, gInt, gAbs, gTuple, gMax, gMin, gGcd, LIM, gIx, et]) (by omega)
  have hb := law_go (ns := ns) hR (List.range n) fun k hk => by have := List.mem_range.mp hk; omega
  have hlen : (rangeD 0 n).length ≤ 100000 := by rw [rangeD_len]; omega
  have hb' : lcGo (aName 1) fYes (lawE FR) [some (.dat (.list (ns.map PyData.int))), none] (rangeD 0 n) [] = some ((List.range n).map fun _ => PyData.bool true, []) := hb
  have hall : gAll [.list ((List.range n).map fun _ => PyData.bool true)] = some (.bool true) := by
    show (boolsOf _).map (fun bs => PyData.bool (bs.all id)) = _
    rw [bools_true]
    simp
  refine ⟨[], ?_⟩
  unfold lawB
  generalize lawR m = rg at e
  generalize lawE FR = eb at hb'
  simp only [fZip, zipD, gSum, intsOf, List.foldl_cons, List.foldl_nil, mkF, fRet, fRetL, fRetN, fSkip, fSeq, fNever, fSet, fAsg, fNew, fIfS, fDrop, fPar, fPar3, fSetc, fSetc2, fVar, fLit, fOp, fUn, fTup, fTup.datsOf, fLst, fNilA, fConsA, fStarA, fCelA, fOfL, fTru, fAndT, fOrT, fNotT, fAndV, fOrV, fNotV, fIf, fBi, fCall, fCallL, fCallFr, fPerm, callF, celOf, celsOk, norm, aName, aNil, aCons, aTup, setD, fSl, fIt, fItL, fItT, fFor, forGo, fLc, lcGo, fYes, wipeD, fCix, fList, fSlL, fPart, fNoPart, fChain, List.length_cons, List.length_nil, List.getElem?_cons_zero, List.getElem?_cons_succ, List.getElem?_nil, List.set_cons_zero, List.set_cons_succ, List.map_cons, List.map_nil, List.cons_append, List.nil_append, List.append_nil, List.replicate, List.take_zero, List.take_nil, List.take_succ_cons, ↓bsome, ↓msome, Option.bind_some, Option.map_some, Option.bind_none, Option.map_none, Nat.sub_self, Int.cast_ofNat_Int, Nat.reduceAdd, Nat.reduceMul, Nat.reduceSub, Nat.reduceLeDiff, Nat.reduceLT, Nat.zero_add, Nat.add_zero, and_self, and_true, true_and, if_true, if_false, ↓reduceIte, ite_true, Bool.true_eq_false, Bool.false_eq_true, beq_self_eq_true, Bool.and_self, Bool.not_true, Bool.not_false, decide_true, decide_false, gLen, gTyIs, gTyNot, tyOf, gNeg, gPlus, DL.gSub, gCmp, gInt, gAbs, gTuple, gMax, gMin, gGcd, LIM, gIx, e, hlen, hb', hall]
end PL


set_option Elab.async false
set_option linter.all false
set_option maxRecDepth 100000
set_option maxHeartbeats 400000
namespace PL
open PySem PySem.Spec L2 DL
open PyProof.Rows hiding St
def b_split : FS := (fSeq (fDrop (fCall F_check_light (fConsA (fVar 0) fNilA)))
  (fSeq (fDrop (fCall F_check_kind (fConsA (fVar 1) fNilA)))
  (fSeq (fPar 5 6 (fConsA (fSl (fVar 0) fNoPart (fPart (fLit (.int 4)))) (fConsA (fTup (fConsA (fOp gIx (fVar 1) (fLit (.int 3))) (fConsA (fOp gIx (fVar 1) (fLit (.int 0))) (fConsA (fOp gIx (fVar 1) (fLit (.int 1))) (fConsA (fOp gIx (fVar 1) (fLit (.int 2))) fNilA))))) fNilA)))
  (fSeq (fAsg (aTup 2 (aCons (aName 7) (aCons (aName 8) aNil))) (fTup (fConsA (fCall F_crossed (fConsA (fVar 5) (fConsA (fVar 5) fNilA))) (fConsA (fCall F_crossed (fConsA (fVar 5) (fConsA (fVar 6) fNilA))) fNilA))))
  (fSeq (fIfS (fTru (fOp gEq (fVar 8) (fLit (.int 0)))) (fRet (fTup (fConsA (fVar 0) (fConsA (fLit c__DARK) fNilA)))) fSkip)
  (fSeq (fSet 2 (fOfL (fLc (fIt (fVar 6)) (aName 9) fYes (fOp gMul (fVar 7) (fVar 9)) [9])))
  (fSeq (fSet 3 (fCall F_combined (fConsA (fOp gMul (fLit (.int 2)) (fVar 8)) (fConsA (fVar 5) (fConsA (fUn gNeg (fLit (.int 1))) (fConsA (fVar 2) fNilA))))))
  (fSeq (fSet 4 (fOp gMul (fOp gMul (fLit (.int 2)) (fVar 8)) (fOp gIx (fVar 0) (fLit (.int 4)))))
  (fRet (fTup (fConsA (fCall F_reduced (fConsA (fTup (fStarA (fVar 2) (fConsA (fVar 4) fNilA))) fNilA)) (fConsA (fCall F_reduced (fConsA (fTup (fStarA (fVar 3) (fConsA (fVar 4) fNilA))) fNilA)) fNilA))))))))))))
def F_split : FnS := mkF 2 10 0 b_split
def b__law_is_multiple : FS := (fRet (fOrV (fOp gEq (fOp gIx (fVar 0) (fLit (.int 0))) (fLit (.int 0))) (fAndV (fOp gEq (fCall F__law_cone (fConsA (fVar 0) fNilA)) (fLit (.int 0))) (fOp gEq (fCall F__law_least (fConsA (fOp gPlus (fSl (fVar 0) (fPart (fLit (.int 1))) (fPart (fLit (.int 4)))) (fTup (fConsA (fOp gIx (fVar 0) (fLit (.int 0))) fNilA))) fNilA)) (fVar 1)))))
def F__law_is_multiple : FnS := mkF 2 2 0 b__law_is_multiple
def b__law_split_right : FS := (fSeq (fSet 2 (fCall F_split (fConsA (fVar 0) (fConsA (fVar 1) fNilA))))
  (fSeq (fIfS (fOrT (fNotT (fTru (fUn (gIsi "tuple") (fVar 2)))) (fOrT (fTru (fOp gNe (fBi gLen (fConsA (fVar 2) fNilA)) (fLit (.int 2)))) (fNotT (fTru (fCall F__law_is_shine (fConsA (fOp gIx (fVar 2) (fLit (.int 0))) fNilA)))))) (fRet (fLit (.bool false))) fSkip)
  (fSeq (fIfS (fNotT (fTru (fCall F__law_is_shine (fConsA (fOp gIx (fVar 2) (fLit (.int 1))) fNilA)))) (fRet (fLit (.bool false))) fSkip)
  (fSeq (fIfS (fOrT (fTru (fOp gNe (fBi gRepr (fConsA (fCall F_split (fConsA (fVar 0) (fConsA (fVar 1) fNilA))) fNilA)) (fBi gRepr (fConsA (fVar 2) fNilA)))) (fTru (fOp gNe (fBi gRepr (fConsA (fCall F_added (fConsA (fOp gIx (fVar 2) (fLit (.int 0))) (fConsA (fOp gIx (fVar 2) (fLit (.int 1))) fNilA))) fNilA)) (fBi gRepr (fConsA (fVar 0) fNilA))))) (fRet (fLit (.bool false))) fSkip)
  (fSeq (fIfS (fTru (fCall F__law_is_multiple (fConsA (fVar 0) (fConsA (fVar 1) fNilA)))) (fRet (fOp gEq (fBi gRepr (fConsA (fVar 2) fNilA)) (fBi gRepr (fConsA (fTup (fConsA (fVar 0) (fConsA (fTup (fConsA (fLit (.int 0)) (fConsA (fLit (.int 0)) (fConsA (fLit (.int 0)) (fConsA (fLit (.int 0)) (fConsA (fLit (.int 1)) fNilA)))))) fNilA))) fNilA)))) fSkip)
  (fSeq (fIfS (fOrT (fNotT (fTru (fCall F__law_is_multiple (fConsA (fOp gIx (fVar 2) (fLit (.int 0))) (fConsA (fVar 1) fNilA))))) (fOrT (fTru (fOp gEq (fOp gIx (fOp gIx (fVar 2) (fLit (.int 1))) (fLit (.int 0))) (fLit (.int 0)))) (fTru (fOp gNe (fCall F__law_cone (fConsA (fOp gIx (fVar 2) (fLit (.int 1))) fNilA)) (fLit (.int 0)))))) (fRet (fLit (.bool false))) fSkip)
  (fSeq (fSet 3 (fCall F_product (fConsA (fVar 0) (fConsA (fCall F_pure_light (fConsA (fVar 1) fNilA)) fNilA))))
  (fSeq (fSet 4 (fCall F__law_by (fConsA (fCall F_product (fConsA (fVar 0) (fConsA (fVar 0) fNilA))) (fConsA (fTup (fConsA (fOp gIx (fVar 3) (fLit (.int 1))) (fConsA (fOp gMul (fLit (.int 2)) (fOp gIx (fVar 3) (fLit (.int 0)))) fNilA))) fNilA))))
  (fRet (fAndV (fOp gEq (fBi gRepr (fConsA (fOp gIx (fVar 2) (fLit (.int 0))) fNilA)) (fBi gRepr (fConsA (fCall F_times (fConsA (fCall F_pure_light (fConsA (fVar 1) fNilA)) (fConsA (fVar 4) fNilA))) fNilA))) (fOp gEq (fOp gEq (fOp gIx (fOp gIx (fVar 2) (fLit (.int 0))) (fLit (.int 0))) (fLit (.int 0))) (fOp gEq (fCall F__law_cone (fConsA (fVar 0) fNilA)) (fLit (.int 0))))))))))))))
def F__law_split_right : FnS := mkF 2 5 0 b__law_split_right
def b__law_joined_right : FS := (fSeq (fSet 2 (fCall F__law_hue (fCelA 0 fNilA)))
  (fSeq (fIfS (fTru (fOp gEq (fVar 2) (fVar 1))) (fSet 2 (fTup (fConsA (fOp gSub (fLit (.int 0)) (fOp gIx (fVar 1) (fLit (.int 0)))) (fConsA (fOp gSub (fLit (.int 0)) (fOp gIx (fVar 1) (fLit (.int 1)))) (fConsA (fOp gSub (fLit (.int 0)) (fOp gIx (fVar 1) (fLit (.int 2)))) (fConsA (fOp gIx (fVar 1) (fLit (.int 3))) fNilA)))))) fSkip)
  (fSeq (fSet 3 (fCall F_times (fConsA (fCall F_pure_light (fConsA (fVar 1) fNilA)) (fConsA (fCall F__law_level (fCelA 0 fNilA)) fNilA))))
  (fSeq (fSet 4 (fCall F_times (fConsA (fCall F_pure_light (fConsA (fVar 2) fNilA)) (fConsA (fCall F__law_plus (fConsA (fTup (fConsA (fLit (.int 1)) (fConsA (fLit (.int 7)) fNilA))) (fConsA (fCall F__law_level (fCelA 0 fNilA)) fNilA))) fNilA))))
  (fSeq (fSet 5 (fCall F_added (fConsA (fVar 3) (fConsA (fVar 4) fNilA))))
  (fSeq (fIfS (fTru (fOp gNe (fBi gRepr (fConsA (fCall F_split (fConsA (fVar 5) (fConsA (fVar 1) fNilA))) fNilA)) (fBi gRepr (fConsA (fTup (fConsA (fVar 3) (fConsA (fVar 4) fNilA))) fNilA)))) (fRet (fLit (.bool false))) fSkip)
  (fSeq (fSet 6 (fIf (fTru (fOp (gCmp fun i j => decide (j < i)) (fOp gIx (fVar 3) (fLit (.int 0))) (fLit (.int 0)))) (fTup (fConsA (fVar 4) (fConsA (fVar 3) fNilA))) (fTup (fConsA (fVar 4) (fConsA (fTup (fConsA (fLit (.int 0)) (fConsA (fLit (.int 0)) (fConsA (fLit (.int 0)) (fConsA (fLit (.int 0)) (fConsA (fLit (.int 1)) fNilA)))))) fNilA)))))
  (fRet (fOp gEq (fBi gRepr (fConsA (fCall F_split (fConsA (fVar 5) (fConsA (fVar 2) fNilA))) fNilA)) (fBi gRepr (fConsA (fVar 6) fNilA)))))))))))
def F__law_joined_right : FnS := mkF 2 7 1 b__law_joined_right
def b__law_right_K06 : FS := (fSeq (fPar3 4 5 6 (fConsA (fCall F__law_shine (fCelA 0 fNilA)) (fConsA (fCall F__law_hue (fCelA 0 fNilA)) (fConsA (fCall F__law_plus (fConsA (fTup (fConsA (fLit (.int 1)) (fConsA (fLit (.int 5)) fNilA))) (fConsA (fCall F__law_level (fCelA 0 fNilA)) fNilA))) fNilA))))
  (fSeq (fSet 1 (fCall F_kind_of (fConsA (fVar 4) fNilA)))
  (fSeq (fSet 2 (fOfL (fLst (fConsA (fVar 5) (fConsA (fTup (fConsA (fLit (.int 0)) (fConsA (fLit (.int 0)) (fConsA (fUn gNeg (fLit (.int 1))) (fConsA (fLit (.int 1)) fNilA))))) fNilA)))))
  (fSeq (fIfS (fTru (fOp gNotN (fVar 1) (fLit .none))) (fSet 2 (fOp gPlus (fVar 2) (fOfL (fLst (fConsA (fVar 1) (fConsA (fTup (fConsA (fOp gSub (fLit (.int 0)) (fOp gIx (fVar 1) (fLit (.int 0)))) (fConsA (fOp gSub (fLit (.int 0)) (fOp gIx (fVar 1) (fLit (.int 1)))) (fConsA (fOp gSub (fLit (.int 0)) (fOp gIx (fVar 1) (fLit (.int 2)))) (fConsA (fOp gIx (fVar 1) (fLit (.int 3))) fNilA))))) fNilA)))))) fSkip)
  (fSeq (fFor (fIt (fVar 2)) (aName 3) (fSeq (fIfS (fNotT (fTru (fCall F__law_split_right (fConsA (fVar 4) (fConsA (fVar 3) fNilA))))) (fRet (fLit (.bool false))) fSkip)
  (fSeq (fSet 7 (fCall F_split (fConsA (fVar 4) (fConsA (fVar 3) fNilA))))
  (fIfS (fTru (fOp gNe (fBi gRepr (fConsA (fCall F_split (fConsA (fCall F_times (fConsA (fVar 4) (fConsA (fVar 6) fNilA))) (fConsA (fVar 3) fNilA))) fNilA)) (fBi gRepr (fConsA (fTup (fConsA (fCall F_times (fConsA (fOp gIx (fVar 7) (fLit (.int 0))) (fConsA (fVar 6) fNilA))) (fConsA (fCall F_times (fConsA (fOp gIx (fVar 7) (fLit (.int 1))) (fConsA (fVar 6) fNilA))) fNilA))) fNilA)))) (fRet (fLit (.bool false))) fSkip))))
  (fSeq (fIfS (fOrT (fNotT (fTru (fCall F__law_split_right (fConsA (fTup (fConsA (fLit (.int 0)) (fConsA (fLit (.int 0)) (fConsA (fLit (.int 0)) (fConsA (fLit (.int 0)) (fConsA (fLit (.int 1)) fNilA)))))) (fConsA (fVar 5) fNilA))))) (fNotT (fTru (fCall F__law_joined_right (fCelA 0 (fConsA (fVar 5) fNilA)))))) (fRet (fLit (.bool false))) fSkip)
  (fRet (fCall F__law_joined_right (fCelA 0 (fConsA (fOp gIx (fVar 2) (fUn gNeg (fLit (.int 1)))) fNilA))))))))))
def F__law_right_K06 : FnS := mkF 1 8 1 b__law_right_K06
def b_law_K06 : FS := (fRet (fBi gAll (fConsA (fOfL (fLc (fRng1 (fConsA (fCall F__law_turns (fConsA (fVar 0) (fConsA (fLit (.int 4)) fNilA))) fNilA)) (aName 1) fYes (fCallFr F__law_right_K06 (fCallL F__law_tap (fConsA (fVar 0) (fConsA (fVar 1) fNilA)))) [1])) fNilA)))
def F_law_K06 : FnS := mkF 1 2 0 b_law_K06
end PL


set_option Elab.async false
set_option linter.all false
set_option maxRecDepth 100000
set_option maxHeartbeats 1000000
set_option exponentiation.threshold 20000
namespace PL
open PySem PySem.Spec L2 DL
/-! a light split by a kind -/
section
variable {m : Nat} {i q u v n a b c d a' b' c' d' s t S H : Int}
theorem e_combl4 (ha : Sm 4000 a) (hb : Sm 4000 b) (hc : Sm 4000 c) (hd : Sm 4000 d) (ha' : Sm 4000 a') (hb' : Sm 4000 b') (hc' : Sm 4000 c') (hd' : Sm 4000 d') (hs : Sm 4000 s) (ht : Sm 4000 t) :
    F_combined [.dat (.int s), .dat (T4 a b c d), .dat (.int t), .dat (L4 a' b' c' d')] [] = some (.dat (T4 (s * a + t * a') (s * b + t * b') (s * c + t * c') (s * d + t * d')), []) := by
  simp (maxDischargeDepth := 40) only [fZip, zipD, gSum, intsOf, List.foldl_cons, List.foldl_nil, mkF, fRet, fRetL, fRetN, fSkip, fSeq, fNever, fSet, fAsg, fNew, fIfS, fDrop, fPar, fPar3, fSetc, fSetc2, fVar, fLit, fOp, fUn, fTup, fTup.datsOf, fLst, fNilA, fConsA, fStarA, fCelA, fOfL, fTru, fAndT, fOrT, fNotT, fAndV, fOrV, fNotV, fIf, fBi, fCall, fCallL, fCallFr, fPerm, callF, celOf, celsOk, norm, aName, aNil, aCons, aTup, setD, fSl, fIt, fItL, fItT, fFor, forGo, fLc, lcGo, fYes, wipeD, fCix, fList, fSlL, fPart, fNoPart, fChain, List.length_cons, List.length_nil, List.getElem?_cons_zero, List.getElem?_cons_succ, List.getElem?_nil, List.set_cons_zero, List.set_cons_succ, List.map_cons, List.map_nil, List.cons_append, List.nil_append, List.append_nil, List.replicate, List.take_zero, List.take_nil, List.take_succ_cons, ↓bsome, ↓msome, Option.bind_some, Option.map_some, Option.bind_none, Option.map_none, Nat.sub_self, Int.cast_ofNat_Int, Nat.reduceAdd, Nat.reduceMul, Nat.reduceSub, Nat.reduceLeDiff, Nat.reduceLT, Nat.zero_add, Nat.add_zero, and_self, and_true, true_and, if_true, if_false, ↓reduceIte, ite_true, Bool.true_eq_false, Bool.false_eq_true, beq_self_eq_true, Bool.and_self, Bool.not_true, Bool.not_false, decide_true, decide_false, gLen, gTyIs, gTyNot, tyOf, gNeg, gPlus, DL.gSub, gCmp, gInt, gAbs, gTuple, gMax, gMin, gGcd, LIM, gIx, ix1_0, ix2_0, ix2_1, ix3_0, ix3_1, ix3_2, ix4_0, ix4_1, ix4_2, ix4_3, ix5_0, ix5_1, ix5_2, ix5_3, ix5_4, ix6_0, ix6_1, ix6_2, ix6_3, ix6_4, ix6_5, cut5_04, cut5_14, cut4_04, cut4_03, cut4_14, Sm.mul, Sm.add, Sm.sub, Sm.neg, Sm.div, Sm.lit, sz_0, sz_1, sz_2, sz_3, sz_4, sz_8, Nat.reduceDiv, Nat.reduceSub, Nat.reduceLT, Nat.reduceLeDiff, Int.reduceLT, Int.reduceNeg, Int.mul_pos, gMul_ok, gDiv_ok, gMod_ok, *, F_combined, b_combined]
theorem e_split0 (h : Lt 200 i q u v n) (g : Kd 60 a b c d) (hH : i * d - (q * a + u * b + v * c) = 0) : F_split [.dat (T5 i q u v n), .dat (T4 a b c d)] [] = some (.dat (.tuple [T5 i q u v n, T5 0 0 0 0 1]), []) := by
  have e1 := e_chl (h.up (by decide : 200 ≤ 4000))
  have e2 := e_chk (⟨g.n0, g.sph, g.one, g.sq.by _ (by decide), g.su.by _ (by decide), g.sv.by _ (by decide), g.sn.by _ (by decide)⟩ : Kd 4000 a b c d)
  have e3 := e_cross (h.si.sm (m := 4000)) h.sq.sm h.su.sm h.sv.sm (h.si.sm (m := 4000)) h.sq.sm h.su.sm h.sv.sm
  have e4 := e_cross (h.si.sm (m := 4000)) h.sq.sm h.su.sm h.sv.sm (g.sn.sm (m := 4000)) g.sq.sm g.su.sm g.sv.sm
  rw [hH] at e4
  clear h g hH
  simp only [fZip, zipD, gSum, intsOf, List.foldl_cons, List.foldl_nil, mkF, fRet, fRetL, fRetN, fSkip, fSeq, fNever, fSet, fAsg, fNew, fIfS, fDrop, fPar, fPar3, fSetc, fSetc2, fVar, fLit, fOp, fUn, fTup, fTup.datsOf, fLst, fNilA, fConsA, fStarA, fCelA, fOfL, fTru, fAndT, fOrT, fNotT, fAndV, fOrV, fNotV, fIf, fBi, fCall, fCallL, fCallFr, fPerm, callF, celOf, celsOk, norm, aName, aNil, aCons, aTup, setD, fSl, fIt, fItL, fItT, fFor, forGo, fLc, lcGo, fYes, wipeD, fCix, fList, fSlL, fPart, fNoPart, fChain, List.length_cons, List.length_nil, List.getElem?_cons_zero, List.getElem?_cons_succ, List.getElem?_nil, List.set_cons_zero, List.set_cons_succ, List.map_cons, List.map_nil, List.cons_append, List.nil_append, List.append_nil, List.replicate, List.take_zero, List.take_nil, List.take_succ_cons, ↓bsome, ↓msome, Option.bind_some, Option.map_some, Option.bind_none, Option.map_none, Nat.sub_self, Int.cast_ofNat_Int, Nat.reduceAdd, Nat.reduceMul, Nat.reduceSub, Nat.reduceLeDiff, Nat.reduceLT, Nat.zero_add, Nat.add_zero, and_self, and_true, true_and, if_true, if_false, ↓reduceIte, ite_true, Bool.true_eq_false, Bool.false_eq_true, beq_self_eq_true, Bool.and_self, Bool.not_true, Bool.not_false, decide_true, decide_false, gLen, gTyIs, gTyNot, tyOf, gNeg, gPlus, DL.gSub, gCmp, gInt, gAbs, gTuple, gMax, gMin, gGcd, LIM, gIx, F_split, b_split, e1, e2, e3, e4, gIx, ix4_0, ix4_1, ix4_2, ix4_3, ix5_4, cut5_04, gEq_int, c__DARK]
theorem e_split1 (h : Lt 200 i q u v n) (g : Kd 60 a b c d) (hS : i * i - (q * q + u * u + v * v) = S) (hH : i * d - (q * a + u * b + v * c) = H) (h0 : 0 < H) : F_split [.dat (T5 i q u v n), .dat (T4 a b c d)] [] = some (.dat (.tuple [R5 (S * d) (S * a) (S * b) (S * c) (2 * H * n), R5 (2 * H * i + -1 * (S * d)) (2 * H * q + -1 * (S * a)) (2 * H * u + -1 * (S * b)) (2 * H * v + -1 * (S * c)) (2 * H * n)]), []) := by
  have e1 := e_chl (h.up (by decide : 200 ≤ 4000))
  have e2 := e_chk (⟨g.n0, g.sph, g.one, g.sq.by _ (by decide), g.su.by _ (by decide), g.sv.by _ (by decide), g.sn.by _ (by decide)⟩ : Kd 4000 a b c d)
  have e3 := e_cross (h.si.sm (m := 4000)) h.sq.sm h.su.sm h.sv.sm (h.si.sm (m := 4000)) h.sq.sm h.su.sm h.sv.sm
  have e4 := e_cross (h.si.sm (m := 4000)) h.sq.sm h.su.sm h.sv.sm (g.sn.sm (m := 4000)) g.sq.sm g.su.sm g.sv.sm
  rw [hH] at e4
  rw [hS] at e3
  obtain ⟨i0, n0, hc, h1, si, sq, su, sv, sn⟩ := h
  obtain ⟨d0, hs, ho, sa, sb, sc, sd⟩ := g
  have sS : Sz 403 S := by rw [← hS]; (apply Sz.by; (repeat (first | assumption | exact sz_0 | exact sz_1 | exact sz_2 | exact sz_3 | exact sz_4 | exact sz_8 | exact Sz.of40 (by decide) | apply Sz.mul | apply Sz.add | apply Sz.sub | apply Sz.neg | apply Sz.div)); decide)
  have sH : Sz 263 H := by rw [← hH]; (apply Sz.by; (repeat (first | assumption | exact sz_0 | exact sz_1 | exact sz_2 | exact sz_3 | exact sz_4 | exact sz_8 | exact Sz.of40 (by decide) | apply Sz.mul | apply Sz.add | apply Sz.sub | apply Sz.neg | apply Sz.div)); decide)
  have hb : (H == 0) = false := beq_eq_false_iff_ne.mpr (by omega)
  clear hS hH hc h1 hs ho
  have sm1 : Sm 4000 (-1 : Int) := by unfold Sm; decide
  simp (maxDischargeDepth := 40) only [fZip, zipD, gSum, intsOf, List.foldl_cons, List.foldl_nil, mkF, fRet, fRetL, fRetN, fSkip, fSeq, fNever, fSet, fAsg, fNew, fIfS, fDrop, fPar, fPar3, fSetc, fSetc2, fVar, fLit, fOp, fUn, fTup, fTup.datsOf, fLst, fNilA, fConsA, fStarA, fCelA, fOfL, fTru, fAndT, fOrT, fNotT, fAndV, fOrV, fNotV, fIf, fBi, fCall, fCallL, fCallFr, fPerm, callF, celOf, celsOk, norm, aName, aNil, aCons, aTup, setD, fSl, fIt, fItL, fItT, fFor, forGo, fLc, lcGo, fYes, wipeD, fCix, fList, fSlL, fPart, fNoPart, fChain, List.length_cons, List.length_nil, List.getElem?_cons_zero, List.getElem?_cons_succ, List.getElem?_nil, List.set_cons_zero, List.set_cons_succ, List.map_cons, List.map_nil, List.cons_append, List.nil_append, List.append_nil, List.replicate, List.take_zero, List.take_nil, List.take_succ_cons, ↓bsome, ↓msome, Option.bind_some, Option.map_some, Option.bind_none, Option.map_none, Nat.sub_self, Int.cast_ofNat_Int, Nat.reduceAdd, Nat.reduceMul, Nat.reduceSub, Nat.reduceLeDiff, Nat.reduceLT, Nat.zero_add, Nat.add_zero, and_self, and_true, true_and, if_true, if_false, ↓reduceIte, ite_true, Bool.true_eq_false, Bool.false_eq_true, beq_self_eq_true, Bool.and_self, Bool.not_true, Bool.not_false, decide_true, decide_false, gLen, gTyIs, gTyNot, tyOf, gNeg, gPlus, DL.gSub, gCmp, gInt, gAbs, gTuple, gMax, gMin, gGcd, LIM, gIx, ix1_0, ix2_0, ix2_1, ix3_0, ix3_1, ix3_2, ix4_0, ix4_1, ix4_2, ix4_3, ix5_0, ix5_1, ix5_2, ix5_3, ix5_4, ix6_0, ix6_1, ix6_2, ix6_3, ix6_4, ix6_5, cut5_04, cut5_14, cut4_04, cut4_03, cut4_14, Sm.mul, Sm.add, Sm.sub, Sm.neg, Sm.div, Sm.lit, sz_0, sz_1, sz_2, sz_3, sz_4, sz_8, Nat.reduceDiv, Nat.reduceSub, Nat.reduceLT, Nat.reduceLeDiff, Int.reduceLT, Int.reduceNeg, Int.mul_pos, gMul_ok, gDiv_ok, gMod_ok, F_split, b_split, e1, e2, e3, e4, gEq_int, hb, e_combl4, e_red5, si, sq, su, sv, sn, sa, sb, sc, sd, sS, sH, sm1]
end
end PL


set_option Elab.async false
set_option linter.all false
set_option maxRecDepth 100000
set_option maxHeartbeats 1000000
set_option exponentiation.threshold 20000
namespace PL
open PySem PySem.Spec L2 DL
section
variable {m : Nat} {i q u v n a b c d S H : Int}
theorem Kd.up {k : Nat} (g : Kd m a b c d) (hk : m ≤ k) : Kd k a b c d := ⟨g.n0, g.sph, g.one, g.sq.by _ hk, g.su.by _ hk, g.sv.by _ hk, g.sn.by _ hk⟩
/-- what a light shares with a kind is not below 0 -/
theorem sh_nn (h : Lt m i q u v n) (g : Kd 60 a b c d) : 0 ≤ i * d - (q * a + u * b + v * c) :=
  cauchy h.i0 (Int.le_of_lt g.n0) h.cone (by rw [g.sph]; omega)
theorem par_kind (i0 : 0 < i) (g : Kd 60 a b c d) : red [q, u, v, i] = [a, b, c, d] ↔ d * q = i * a ∧ d * u = i * b ∧ d * v = i * c := by
  rw [← red_of_one g.one]
  exact red4_par i0 g.n0
theorem sh_zero (h : Lt m i q u v n) (i0 : 0 < i) (g : Kd 60 a b c d) : (i * i - q * q - u * u - v * v = 0 ∧ red [q, u, v, i] = [a, b, c, d]) ↔ i * d - (q * a + u * b + v * c) = 0 := by
  rw [par_kind i0 g]
  have hs := g.sph
  have d0 := g.n0
  constructor
  · rintro ⟨_, h1, h2, h3⟩
    refine (Int.mul_eq_zero.mp (?_ : d * (i * d - (q * a + u * b + v * c)) = 0)).resolve_left (by omega)
    have : d * (i * d - (q * a + u * b + v * c)) = i * (d * d) - ((d * q) * a + (d * u) * b + (d * v) * c) := by grind
    rw [this, h1, h2, h3, ← hs]
    grind
  · intro hz
    obtain ⟨h1, h2, h3, h4, h5⟩ := prod_zero i0 d0 h.cone (by rw [hs]; omega) hz
    exact ⟨by omega, h3, h4, h5⟩
theorem gEq_T4' (a b c d a' b' c' d' : Int) : gEq (T4 a b c d) (T4 a' b' c' d') = some (.bool (decide ([a, b, c, d] = [a', b', c', d']))) := by
  rw [gEq_T4]
  congr 2
  by_cases h : [a, b, c, d] = [a', b', c', d']
  · rw [decide_eq_true h, beq_iff_eq]; exact h
  · rw [decide_eq_false h]; exact beq_eq_false_iff_ne.mpr h
theorem e_ismul (h : Lt 600 i q u v n) (g : Kd 60 a b c d) : F__law_is_multiple [.dat (T5 i q u v n), .dat (T4 a b c d)] [] = some (.dat (.bool (decide (i * d - (q * a + u * b + v * c) = 0))), []) := by
  by_cases hi : i = 0
  · subst hi
    obtain ⟨rfl, rfl, rfl, rfl⟩ := lt_dark h
    have : (0 : Int) * d - (0 * a + 0 * b + 0 * c) = 0 := by grind
    rw [this]
    clear h g this
    simp only [fZip, zipD, gSum, intsOf, List.foldl_cons, List.foldl_nil, mkF, fRet, fRetL, fRetN, fSkip, fSeq, fNever, fSet, fAsg, fNew, fIfS, fDrop, fPar, fPar3, fSetc, fSetc2, fVar, fLit, fOp, fUn, fTup, fTup.datsOf, fLst, fNilA, fConsA, fStarA, fCelA, fOfL, fTru, fAndT, fOrT, fNotT, fAndV, fOrV, fNotV, fIf, fBi, fCall, fCallL, fCallFr, fPerm, callF, celOf, celsOk, norm, aName, aNil, aCons, aTup, setD, fSl, fIt, fItL, fItT, fFor, forGo, fLc, lcGo, fYes, wipeD, fCix, fList, fSlL, fPart, fNoPart, fChain, List.length_cons, List.length_nil, List.getElem?_cons_zero, List.getElem?_cons_succ, List.getElem?_nil, List.set_cons_zero, List.set_cons_succ, List.map_cons, List.map_nil, List.cons_append, List.nil_append, List.append_nil, List.replicate, List.take_zero, List.take_nil, List.take_succ_cons, ↓bsome, ↓msome, Option.bind_some, Option.map_some, Option.bind_none, Option.map_none, Nat.sub_self, Int.cast_ofNat_Int, Nat.reduceAdd, Nat.reduceMul, Nat.reduceSub, Nat.reduceLeDiff, Nat.reduceLT, Nat.zero_add, Nat.add_zero, and_self, and_true, true_and, if_true, if_false, ↓reduceIte, ite_true, Bool.true_eq_false, Bool.false_eq_true, beq_self_eq_true, Bool.and_self, Bool.not_true, Bool.not_false, decide_true, decide_false, gLen, gTyIs, gTyNot, tyOf, gNeg, gPlus, DL.gSub, gCmp, gInt, gAbs, gTuple, gMax, gMin, gGcd, LIM, gIx, F__law_is_multiple, b__law_is_multiple, gIx, ix5_0, gEq_int]
  have i0 : 0 < i := by have := h.i0; omega
  have hb : (i == 0) = false := beq_eq_false_iff_ne.mpr hi
  have key := sh_zero h i0 g
  have e1 := e_lcone (n := n) (h.si.sm (m := 4000)) (h.sq.sm (m := 4000)) (h.su.sm (m := 4000)) (h.sv.sm (m := 4000))
  have e2 := e_ll4 (h.sq.sm (m := 1400)) h.su.sm h.sv.sm h.si.sm
  have e3 := gEq_T4' (q / mL [q, u, v, i]) (u / mL [q, u, v, i]) (v / mL [q, u, v, i]) (i / mL [q, u, v, i]) a b c d
  have e4 : [q / mL [q, u, v, i], u / mL [q, u, v, i], v / mL [q, u, v, i], i / mL [q, u, v, i]] = red [q, u, v, i] := rfl
  rw [e4] at e3
  unfold R4 at e2
  by_cases hz : i * i - q * q - u * u - v * v = 0
  · have hzb : (i * i - q * q - u * u - v * v == 0) = true := by rw [hz]; rfl
    have e5 : decide (red [q, u, v, i] = [a, b, c, d]) = decide (i * d - (q * a + u * b + v * c) = 0) := by
      rw [decide_eq_decide, ← key]
      exact ⟨fun z => ⟨hz, z⟩, fun z => z.2⟩
    rw [e5] at e3
    clear h g key hz e4 e5
    simp only [fZip, zipD, gSum, intsOf, List.foldl_cons, List.foldl_nil, mkF, fRet, fRetL, fRetN, fSkip, fSeq, fNever, fSet, fAsg, fNew, fIfS, fDrop, fPar, fPar3, fSetc, fSetc2, fVar, fLit, fOp, fUn, fTup, fTup.datsOf, fLst, fNilA, fConsA, fStarA, fCelA, fOfL, fTru, fAndT, fOrT, fNotT, fAndV, fOrV, fNotV, fIf, fBi, fCall, fCallL, fCallFr, fPerm, callF, celOf, celsOk, norm, aName, aNil, aCons, aTup, setD, fSl, fIt, fItL, fItT, fFor, forGo, fLc, lcGo, fYes, wipeD, fCix, fList, fSlL, fPart, fNoPart, fChain, List.length_cons, List.length_nil, List.getElem?_cons_zero, List.getElem?_cons_succ, List.getElem?_nil, List.set_cons_zero, List.set_cons_succ, List.map_cons, List.map_nil, List.cons_append, List.nil_append, List.append_nil, List.replicate, List.take_zero, List.take_nil, List.take_succ_cons, ↓bsome, ↓msome, Option.bind_some, Option.map_some, Option.bind_none, Option.map_none, Nat.sub_self, Int.cast_ofNat_Int, Nat.reduceAdd, Nat.reduceMul, Nat.reduceSub, Nat.reduceLeDiff, Nat.reduceLT, Nat.zero_add, Nat.add_zero, and_self, and_true, true_and, if_true, if_false, ↓reduceIte, ite_true, Bool.true_eq_false, Bool.false_eq_true, beq_self_eq_true, Bool.and_self, Bool.not_true, Bool.not_false, decide_true, decide_false, gLen, gTyIs, gTyNot, tyOf, gNeg, gPlus, DL.gSub, gCmp, gInt, gAbs, gTuple, gMax, gMin, gGcd, LIM, gIx, F__law_is_multiple, b__law_is_multiple, gIx, ix5_0, cut5_14, gEq_int, hb, e1, hzb, e2, e3]
  · have hzb : (i * i - q * q - u * u - v * v == 0) = false := beq_eq_false_iff_ne.mpr hz
    have e5 : decide (i * d - (q * a + u * b + v * c) = 0) = false := decide_eq_false fun z => hz (key.mpr z).1
    rw [e5]
    clear h g key hz e4 e5
    simp only [fZip, zipD, gSum, intsOf, List.foldl_cons, List.foldl_nil, mkF, fRet, fRetL, fRetN, fSkip, fSeq, fNever, fSet, fAsg, fNew, fIfS, fDrop, fPar, fPar3, fSetc, fSetc2, fVar, fLit, fOp, fUn, fTup, fTup.datsOf, fLst, fNilA, fConsA, fStarA, fCelA, fOfL, fTru, fAndT, fOrT, fNotT, fAndV, fOrV, fNotV, fIf, fBi, fCall, fCallL, fCallFr, fPerm, callF, celOf, celsOk, norm, aName, aNil, aCons, aTup, setD, fSl, fIt, fItL, fItT, fFor, forGo, fLc, lcGo, fYes, wipeD, fCix, fList, fSlL, fPart, fNoPart, fChain, List.length_cons, List.length_nil, List.getElem?_cons_zero, List.getElem?_cons_succ, List.getElem?_nil, List.set_cons_zero, List.set_cons_succ, List.map_cons, List.map_nil, List.cons_append, List.nil_append, List.append_nil, List.replicate, List.take_zero, List.take_nil, List.take_succ_cons, ↓bsome, ↓msome, Option.bind_some, Option.map_some, Option.bind_none, Option.map_none, Nat.sub_self, Int.cast_ofNat_Int, Nat.reduceAdd, Nat.reduceMul, Nat.reduceSub, Nat.reduceLeDiff, Nat.reduceLT, Nat.zero_add, Nat.add_zero, and_self, and_true, true_and, if_true, if_false, ↓reduceIte, ite_true, Bool.true_eq_false, Bool.false_eq_true, beq_self_eq_true, Bool.and_self, Bool.not_true, Bool.not_false, decide_true, decide_false, gLen, gTyIs, gTyNot, tyOf, gNeg, gPlus, DL.gSub, gCmp, gInt, gAbs, gTuple, gMax, gMin, gGcd, LIM, gIx, F__law_is_multiple, b__law_is_multiple, gIx, ix5_0, gEq_int, hb, e1, hzb]
/-- the two parts, as light rows -/
theorem split_sp (h : Lt 200 i q u v n) (g : Kd 60 a b c d) (hS : i * i - (q * q + u * u + v * v) = S) (hH : i * d - (q * a + u * b + v * c) = H) (h0 : 0 < H) :
    ∃ A0 A1 A2 A3 A4 M B0 B1 B2 B3 B4 N : Int, F_split [.dat (T5 i q u v n), .dat (T4 a b c d)] [] = some (.dat (.tuple [T5 A0 A1 A2 A3 A4, T5 B0 B1 B2 B3 B4]), []) ∧
      Lt 480 A0 A1 A2 A3 A4 ∧ Lt 480 B0 B1 B2 B3 B4 ∧ 0 < M ∧ 0 < N ∧ (S * d = A0 * M ∧ S * a = A1 * M ∧ S * b = A2 * M ∧ S * c = A3 * M ∧ 2 * H * n = A4 * M) ∧
      (2 * H * i + -1 * (S * d) = B0 * N ∧ 2 * H * q + -1 * (S * a) = B1 * N ∧ 2 * H * u + -1 * (S * b) = B2 * N ∧ 2 * H * v + -1 * (S * c) = B3 * N ∧ 2 * H * n = B4 * N) := by
  have e := e_split1 h g hS hH h0
  have i0 := h.i0
  have n0 := h.n0
  have hc : 0 ≤ S := by rw [← hS]; exact h.cone
  have d0 := g.n0
  have hs := g.sph
  have P : 0 < 2 * H * n := Int.mul_pos (by omega) n0
  have sS : Sz 403 S := by
    rw [← hS]
    obtain ⟨_, _, _, _, si, sq, su, sv, sn⟩ := h
    (apply Sz.by; (repeat (first | assumption | exact sz_0 | exact sz_1 | exact sz_2 | exact sz_3 | exact sz_4 | exact sz_8 | exact Sz.of40 (by decide) | apply Sz.mul | apply Sz.add | apply Sz.sub | apply Sz.neg | apply Sz.div)); decide)
  have sH : Sz 263 H := by
    rw [← hH]
    obtain ⟨_, _, _, _, si, sq, su, sv, sn⟩ := h
    obtain ⟨_, _, _, sa, sb, sc, sd⟩ := g
    (apply Sz.by; (repeat (first | assumption | exact sz_0 | exact sz_1 | exact sz_2 | exact sz_3 | exact sz_4 | exact sz_8 | exact Sz.of40 (by decide) | apply Sz.mul | apply Sz.add | apply Sz.sub | apply Sz.neg | apply Sz.div)); decide)
  have s1 : Sz 1 (-1 : Int) := Sm.sz (by unfold Sm; decide)
  -- the rest is pure, and its first number is not below 0
  have null : (2 * H * i + -1 * (S * d)) * (2 * H * i + -1 * (S * d)) - ((2 * H * q + -1 * (S * a)) * (2 * H * q + -1 * (S * a)) + (2 * H * u + -1 * (S * b)) * (2 * H * u + -1 * (S * b)) + (2 * H * v + -1 * (S * c)) * (2 * H * v + -1 * (S * c))) = 0 := by
    have : (2 * H * i + -1 * (S * d)) * (2 * H * i + -1 * (S * d)) - ((2 * H * q + -1 * (S * a)) * (2 * H * q + -1 * (S * a)) + (2 * H * u + -1 * (S * b)) * (2 * H * u + -1 * (S * b)) + (2 * H * v + -1 * (S * c)) * (2 * H * v + -1 * (S * c))) = 4 * H * H * (i * i - (q * q + u * u + v * v)) - 4 * H * S * (i * d - (q * a + u * b + v * c)) + S * S * (d * d - (a * a + b * b + c * c)) := by grind
    rw [this, hS, hH, hs]
    grind
  have shd : (2 * H * i + -1 * (S * d)) * d - ((2 * H * q + -1 * (S * a)) * a + (2 * H * u + -1 * (S * b)) * b + (2 * H * v + -1 * (S * c)) * c) = 2 * (H * H) := by
    have : (2 * H * i + -1 * (S * d)) * d - ((2 * H * q + -1 * (S * a)) * a + (2 * H * u + -1 * (S * b)) * b + (2 * H * v + -1 * (S * c)) * c) = 2 * H * (i * d - (q * a + u * b + v * c)) - S * (d * d - (a * a + b * b + c * c)) := by grind
    rw [this, hH, hs]
    grind
  have y0 : 0 ≤ 2 * H * i + -1 * (S * d) := by
    refine Classical.byContradiction fun z => ?_
    have hneg := cauchy (i := -(2 * H * i + -1 * (S * d))) (q := -(2 * H * q + -1 * (S * a))) (u := -(2 * H * u + -1 * (S * b))) (v := -(2 * H * v + -1 * (S * c))) (i' := d) (q' := a) (u' := b) (v' := c) (by omega) (Int.le_of_lt d0) (by
      simp only [Int.neg_mul_neg]
      omega) (by rw [hs]; omega)
    have hHH := Int.mul_pos h0 h0
    generalize 2 * H * i + -1 * (S * d) = Y0, 2 * H * q + -1 * (S * a) = Y1, 2 * H * u + -1 * (S * b) = Y2, 2 * H * v + -1 * (S * c) = Y3 at hneg shd
    have e2 : -Y0 * d - (-Y1 * a + -Y2 * b + -Y3 * c) = -(Y0 * d - (Y1 * a + Y2 * b + Y3 * c)) := by grind
    rw [e2, shd] at hneg
    omega
  refine ⟨_, _, _, _, _, _, _, _, _, _, _, _, e, ?_, ?_, mL_pos _, mL_pos _, ⟨div_mul (by simp), div_mul (by simp), div_mul (by simp), div_mul (by simp), div_mul (by simp)⟩, div_mul (by simp), div_mul (by simp), div_mul (by simp), div_mul (by simp), div_mul (by simp)⟩
  · obtain ⟨_, _, _, _, si, sq, su, sv, sn⟩ := h
    obtain ⟨_, _, _, sa, sb, sc, sd⟩ := g
    refine lt_R5 (Int.mul_nonneg hc (Int.le_of_lt d0)) P ?_ (by (apply Sz.by; (repeat (first | assumption | exact sz_0 | exact sz_1 | exact sz_2 | exact sz_3 | exact sz_4 | exact sz_8 | exact Sz.of40 (by decide) | apply Sz.mul | apply Sz.add | apply Sz.sub | apply Sz.neg | apply Sz.div)); decide)) (by (apply Sz.by; (repeat (first | assumption | exact sz_0 | exact sz_1 | exact sz_2 | exact sz_3 | exact sz_4 | exact sz_8 | exact Sz.of40 (by decide) | apply Sz.mul | apply Sz.add | apply Sz.sub | apply Sz.neg | apply Sz.div)); decide)) (by (apply Sz.by; (repeat (first | assumption | exact sz_0 | exact sz_1 | exact sz_2 | exact sz_3 | exact sz_4 | exact sz_8 | exact Sz.of40 (by decide) | apply Sz.mul | apply Sz.add | apply Sz.sub | apply Sz.neg | apply Sz.div)); decide)) (by (apply Sz.by; (repeat (first | assumption | exact sz_0 | exact sz_1 | exact sz_2 | exact sz_3 | exact sz_4 | exact sz_8 | exact Sz.of40 (by decide) | apply Sz.mul | apply Sz.add | apply Sz.sub | apply Sz.neg | apply Sz.div)); decide)) (by (apply Sz.by; (repeat (first | assumption | exact sz_0 | exact sz_1 | exact sz_2 | exact sz_3 | exact sz_4 | exact sz_8 | exact Sz.of40 (by decide) | apply Sz.mul | apply Sz.add | apply Sz.sub | apply Sz.neg | apply Sz.div)); decide))
    have : S * d * (S * d) - (S * a * (S * a) + S * b * (S * b) + S * c * (S * c)) = S * S * (d * d - (a * a + b * b + c * c)) := by grind
    rw [this, hs]
    simp
  · obtain ⟨_, _, _, _, si, sq, su, sv, sn⟩ := h
    obtain ⟨_, _, _, sa, sb, sc, sd⟩ := g
    exact lt_R5 y0 P (by omega) (by (apply Sz.by; (repeat (first | assumption | exact sz_0 | exact sz_1 | exact sz_2 | exact sz_3 | exact sz_4 | exact sz_8 | exact Sz.of40 (by decide) | apply Sz.mul | apply Sz.add | apply Sz.sub | apply Sz.neg | apply Sz.div)); decide)) (by (apply Sz.by; (repeat (first | assumption | exact sz_0 | exact sz_1 | exact sz_2 | exact sz_3 | exact sz_4 | exact sz_8 | exact Sz.of40 (by decide) | apply Sz.mul | apply Sz.add | apply Sz.sub | apply Sz.neg | apply Sz.div)); decide)) (by (apply Sz.by; (repeat (first | assumption | exact sz_0 | exact sz_1 | exact sz_2 | exact sz_3 | exact sz_4 | exact sz_8 | exact Sz.of40 (by decide) | apply Sz.mul | apply Sz.add | apply Sz.sub | apply Sz.neg | apply Sz.div)); decide)) (by (apply Sz.by; (repeat (first | assumption | exact sz_0 | exact sz_1 | exact sz_2 | exact sz_3 | exact sz_4 | exact sz_8 | exact Sz.of40 (by decide) | apply Sz.mul | apply Sz.add | apply Sz.sub | apply Sz.neg | apply Sz.div)); decide)) (by (apply Sz.by; (repeat (first | assumption | exact sz_0 | exact sz_1 | exact sz_2 | exact sz_3 | exact sz_4 | exact sz_8 | exact Sz.of40 (by decide) | apply Sz.mul | apply Sz.add | apply Sz.sub | apply Sz.neg | apply Sz.div)); decide))
end
end PL


set_option Elab.async false
set_option linter.all false
set_option maxRecDepth 100000
set_option maxHeartbeats 1000000
set_option exponentiation.threshold 20000
namespace PL
open PySem PySem.Spec L2 DL
section
variable {m : Nat} {i q u v n a b c d S H p r p' r' : Int}
theorem isi_tup (ds : List PyData) : gIsi "tuple" (.tuple ds) = some (.bool true) := rfl
theorem e_lby' (r0 : 0 < r) (r0' : 0 < r') (sp : Sz 300 p) (sr : Sz 300 r) (sp' : Sz 300 p') (sr' : Sz 300 r') : F__law_by [.dat (T2 p r), .dat (T2 p' r')] [] = some (.dat (Rt (p * p') (r * r')), []) := by
  simp (maxDischargeDepth := 40) only [fZip, zipD, gSum, intsOf, List.foldl_cons, List.foldl_nil, mkF, fRet, fRetL, fRetN, fSkip, fSeq, fNever, fSet, fAsg, fNew, fIfS, fDrop, fPar, fPar3, fSetc, fSetc2, fVar, fLit, fOp, fUn, fTup, fTup.datsOf, fLst, fNilA, fConsA, fStarA, fCelA, fOfL, fTru, fAndT, fOrT, fNotT, fAndV, fOrV, fNotV, fIf, fBi, fCall, fCallL, fCallFr, fPerm, callF, celOf, celsOk, norm, aName, aNil, aCons, aTup, setD, fSl, fIt, fItL, fItT, fFor, forGo, fLc, lcGo, fYes, wipeD, fCix, fList, fSlL, fPart, fNoPart, fChain, List.length_cons, List.length_nil, List.getElem?_cons_zero, List.getElem?_cons_succ, List.getElem?_nil, List.set_cons_zero, List.set_cons_succ, List.map_cons, List.map_nil, List.cons_append, List.nil_append, List.append_nil, List.replicate, List.take_zero, List.take_nil, List.take_succ_cons, ↓bsome, ↓msome, Option.bind_some, Option.map_some, Option.bind_none, Option.map_none, Nat.sub_self, Int.cast_ofNat_Int, Nat.reduceAdd, Nat.reduceMul, Nat.reduceSub, Nat.reduceLeDiff, Nat.reduceLT, Nat.zero_add, Nat.add_zero, and_self, and_true, true_and, if_true, if_false, ↓reduceIte, ite_true, Bool.true_eq_false, Bool.false_eq_true, beq_self_eq_true, Bool.and_self, Bool.not_true, Bool.not_false, decide_true, decide_false, gLen, gTyIs, gTyNot, tyOf, gNeg, gPlus, DL.gSub, gCmp, gInt, gAbs, gTuple, gMax, gMin, gGcd, LIM, gIx, ix1_0, ix2_0, ix2_1, ix3_0, ix3_1, ix3_2, ix4_0, ix4_1, ix4_2, ix4_3, ix5_0, ix5_1, ix5_2, ix5_3, ix5_4, ix6_0, ix6_1, ix6_2, ix6_3, ix6_4, ix6_5, cut5_04, cut5_14, cut4_04, cut4_03, cut4_14, Sm.mul, Sm.add, Sm.sub, Sm.neg, Sm.div, Sm.lit, sz_0, sz_1, sz_2, sz_3, sz_4, sz_8, Nat.reduceDiv, Nat.reduceSub, Nat.reduceLT, Nat.reduceLeDiff, Int.reduceLT, Int.reduceNeg, Int.mul_pos, gMul_ok, gDiv_ok, gMod_ok, F__law_by, b__law_by, e_lratio, r0, r0', sp, sr, sp', sr']
/-! what the parts make, in numbers -/
theorem sum_par {A0 A4 B0 B4 M N s H i n : Int} (a0 : s = A0 * M) (a4 : 2 * H * n = A4 * M) (b0 : 2 * H * i + -1 * s = B0 * N) (b4 : 2 * H * n = B4 * N) : M * N * (B4 * A0 + A4 * B0) = 2 * H * n * (2 * H) * i := by
  have : M * N * (B4 * A0 + A4 * B0) = (B4 * N) * (A0 * M) + (A4 * M) * (B0 * N) := by grind
  rw [this, ← a0, ← a4, ← b0, ← b4]
  grind
theorem sum_par4 {A4 B4 M N H n : Int} (a4 : 2 * H * n = A4 * M) (b4 : 2 * H * n = B4 * N) : M * N * (A4 * B4) = 2 * H * n * (2 * H) * n := by
  have : M * N * (A4 * B4) = (A4 * M) * (B4 * N) := by grind
  rw [this, ← a4, ← b4]
  grind
theorem null_of {A0 A1 A2 A3 M S a b c d : Int} (hM : 0 < M) (hs : a * a + b * b + c * c = d * d) (a0 : S * d = A0 * M) (a1 : S * a = A1 * M) (a2 : S * b = A2 * M) (a3 : S * c = A3 * M) : A0 * d - (A1 * a + A2 * b + A3 * c) = 0 := by
  refine (Int.mul_eq_zero.mp (?_ : M * (A0 * d - (A1 * a + A2 * b + A3 * c)) = 0)).resolve_left (by omega)
  have : M * (A0 * d - (A1 * a + A2 * b + A3 * c)) = (A0 * M) * d - ((A1 * M) * a + (A2 * M) * b + (A3 * M) * c) := by grind
  rw [this, ← a0, ← a1, ← a2, ← a3]
  grind
theorem rest_null {B0 B1 B2 B3 N : Int} {Y0 Y1 Y2 Y3 : Int} (hN : 0 < N) (h : Y0 * Y0 - (Y1 * Y1 + Y2 * Y2 + Y3 * Y3) = 0) (b0 : Y0 = B0 * N) (b1 : Y1 = B1 * N) (b2 : Y2 = B2 * N) (b3 : Y3 = B3 * N) : B0 * B0 - B1 * B1 - B2 * B2 - B3 * B3 = 0 := by
  refine (Int.mul_eq_zero.mp (?_ : (N * N) * (B0 * B0 - B1 * B1 - B2 * B2 - B3 * B3) = 0)).resolve_left (by have := Int.mul_pos hN hN; omega)
  rw [b0, b1, b2, b3] at h
  grind
theorem y_null (hS : i * i - (q * q + u * u + v * v) = S) (hH : i * d - (q * a + u * b + v * c) = H) (hs : a * a + b * b + c * c = d * d) : (2 * H * i + -1 * (S * d)) * (2 * H * i + -1 * (S * d)) - ((2 * H * q + -1 * (S * a)) * (2 * H * q + -1 * (S * a)) + (2 * H * u + -1 * (S * b)) * (2 * H * u + -1 * (S * b)) + (2 * H * v + -1 * (S * c)) * (2 * H * v + -1 * (S * c))) = 0 := by
  have : (2 * H * i + -1 * (S * d)) * (2 * H * i + -1 * (S * d)) - ((2 * H * q + -1 * (S * a)) * (2 * H * q + -1 * (S * a)) + (2 * H * u + -1 * (S * b)) * (2 * H * u + -1 * (S * b)) + (2 * H * v + -1 * (S * c)) * (2 * H * v + -1 * (S * c))) = 4 * H * H * (i * i - (q * q + u * u + v * v)) - 4 * H * S * (i * d - (q * a + u * b + v * c)) + S * S * (d * d - (a * a + b * b + c * c)) := by grind
  rw [this, hS, hH, hs]
  grind
theorem y_shared (hH : i * d - (q * a + u * b + v * c) = H) (hs : a * a + b * b + c * c = d * d) : (2 * H * i + -1 * (S * d)) * d - ((2 * H * q + -1 * (S * a)) * a + (2 * H * u + -1 * (S * b)) * b + (2 * H * v + -1 * (S * c)) * c) = 2 * (H * H) := by
  have : (2 * H * i + -1 * (S * d)) * d - ((2 * H * q + -1 * (S * a)) * a + (2 * H * u + -1 * (S * b)) * b + (2 * H * v + -1 * (S * c)) * c) = 2 * H * (i * d - (q * a + u * b + v * c)) - S * (d * d - (a * a + b * b + c * c)) := by grind
  rw [this, hH, hs]
  grind
theorem lvl_par {P R S d H n x : Int} (h : IsQ P R (S * d) (2 * H * n)) : 2 * H * n * (P * x) = R * d * (S * x) := by
  unfold IsQ at h
  have : 2 * H * n * (P * x) = (P * (2 * H * n)) * x := by grind
  rw [this, h]
  grind
/-- the light as its parts' sum -/
theorem parts_sum {A0 A1 A2 A3 A4 M B0 B1 B2 B3 B4 N : Int} (h : Lt 200 i q u v n) (h0 : 0 < H) (lA : Lt 480 A0 A1 A2 A3 A4) (lB : Lt 480 B0 B1 B2 B3 B4) (hM : 0 < M) (hN : 0 < N)
    (a0 : S * d = A0 * M) (a1 : S * a = A1 * M) (a2 : S * b = A2 * M) (a3 : S * c = A3 * M) (a4 : 2 * H * n = A4 * M)
    (b0 : 2 * H * i + -1 * (S * d) = B0 * N) (b1 : 2 * H * q + -1 * (S * a) = B1 * N) (b2 : 2 * H * u + -1 * (S * b) = B2 * N) (b3 : 2 * H * v + -1 * (S * c) = B3 * N) (b4 : 2 * H * n = B4 * N) :
    F_added [.dat (T5 A0 A1 A2 A3 A4), .dat (T5 B0 B1 B2 B3 B4)] [] = some (.dat (T5 i q u v n), []) := by
  rw [e_added (lA.up (by decide)) (lB.up (by decide)), ← R5_one h.one]
  refine congrArg (fun x => some (RV.dat x, ([] : Cs))) (R5_red (red_par (Int.mul_pos hM hN) (Int.mul_pos (Int.mul_pos (by omega : (0 : Int) < 2 * H) h.n0) (by omega : (0 : Int) < 2 * H)) ?_))
  simp only [List.map_cons, List.map_nil, List.cons.injEq, and_true]
  exact ⟨sum_par a0 a4 b0 b4, sum_par a1 a4 b1 b4, sum_par a2 a4 b2 b4, sum_par a3 a4 b3 b4, sum_par4 a4 b4⟩
/-- the part as the kind's light times a level -/
theorem part_level {P R A0 A1 A2 A3 A4 M : Int} (n0 : 0 < n) (h0 : 0 < H) (g : Kd 60 a b c d) (f : Fr 1000 P R) (p0 : 0 ≤ P) (e : IsQ P R (S * d) (2 * H * n)) (lA : Lt m A0 A1 A2 A3 A4) (hM : 0 < M)
    (a0 : S * d = A0 * M) (a1 : S * a = A1 * M) (a2 : S * b = A2 * M) (a3 : S * c = A3 * M) (a4 : 2 * H * n = A4 * M) :
    F_times [.dat (T5 d a b c d), .dat (T2 P R)] [] = some (.dat (T5 A0 A1 A2 A3 A4), []) := by
  rw [e_times ((lt_kd g).up (by decide)) f p0, ← R5_one lA.one]
  have P1 : 0 < 2 * H * n := Int.mul_pos (by omega) n0
  refine congrArg (fun x => some (RV.dat x, ([] : Cs))) (R5_red (red_par P1 (Int.mul_pos (Int.mul_pos f.q0 g.n0) hM) ?_))
  simp only [List.map_cons, List.map_nil, List.cons.injEq, and_true]
  have w : ∀ x X : Int, S * x = X * M → 2 * H * n * (P * x) = R * d * M * X := fun x X hx => by
    rw [lvl_par e, hx]; grind
  refine ⟨w _ _ a0, w _ _ a1, w _ _ a2, w _ _ a3, ?_⟩
  rw [a4]; grind
theorem e_spr (h : Lt 60 i q u v n) (g : Kd 60 a b c d) : F__law_split_right [.dat (T5 i q u v n), .dat (T4 a b c d)] [] = some (.dat (.bool true), []) := by
  have h2 := h.up (by decide : 60 ≤ 200)
  have hm := e_ismul (h.up (by decide : 60 ≤ 600)) g
  have hnn := sh_nn h g
  by_cases hz : i * d - (q * a + u * b + v * c) = 0
  · have e := e_split0 h2 g hz
    rw [decide_eq_true hz] at hm
    have s1 := e_lshine (h.up (by decide : 60 ≤ 1400))
    have s2 := e_lshine (lt_dark0.up (by decide : 40 ≤ 1400))
    have o1 : F_added [.dat (T5 i q u v n), .dat (T5 0 0 0 0 1)] [] = some (.dat (T5 i q u v n), []) := by
      have := e_added (h.up (by decide : 60 ≤ 1000)) (lt_dark0.up (by decide : 40 ≤ 1000))
      simp only [Int.one_mul, Int.mul_zero, Int.add_zero, Int.mul_one] at this
      rw [this, R5_one h.one]
    obtain ⟨ta, ra1, ra2, ra3⟩ := rep_R h.nice
    obtain ⟨tb, rb1, rb2, rb3⟩ := rep_R (nice_tup (nice_cons h.nice (nice_cons dark60.nice nice_nil)))
    clear h h2 g hnn hz
    simp only [fZip, zipD, gSum, intsOf, List.foldl_cons, List.foldl_nil, mkF, fRet, fRetL, fRetN, fSkip, fSeq, fNever, fSet, fAsg, fNew, fIfS, fDrop, fPar, fPar3, fSetc, fSetc2, fVar, fLit, fOp, fUn, fTup, fTup.datsOf, fLst, fNilA, fConsA, fStarA, fCelA, fOfL, fTru, fAndT, fOrT, fNotT, fAndV, fOrV, fNotV, fIf, fBi, fCall, fCallL, fCallFr, fPerm, callF, celOf, celsOk, norm, aName, aNil, aCons, aTup, setD, fSl, fIt, fItL, fItT, fFor, forGo, fLc, lcGo, fYes, wipeD, fCix, fList, fSlL, fPart, fNoPart, fChain, List.length_cons, List.length_nil, List.getElem?_cons_zero, List.getElem?_cons_succ, List.getElem?_nil, List.set_cons_zero, List.set_cons_succ, List.map_cons, List.map_nil, List.cons_append, List.nil_append, List.append_nil, List.replicate, List.take_zero, List.take_nil, List.take_succ_cons, ↓bsome, ↓msome, Option.bind_some, Option.map_some, Option.bind_none, Option.map_none, Nat.sub_self, Int.cast_ofNat_Int, Nat.reduceAdd, Nat.reduceMul, Nat.reduceSub, Nat.reduceLeDiff, Nat.reduceLT, Nat.zero_add, Nat.add_zero, and_self, and_true, true_and, if_true, if_false, ↓reduceIte, ite_true, Bool.true_eq_false, Bool.false_eq_true, beq_self_eq_true, Bool.and_self, Bool.not_true, Bool.not_false, decide_true, decide_false, gLen, gTyIs, gTyNot, tyOf, gNeg, gPlus, DL.gSub, gCmp, gInt, gAbs, gTuple, gMax, gMin, gGcd, LIM, gIx, F__law_split_right, b__law_split_right, e, hm, s1, s2, o1, ra1, ra2, rb1, rb2, rb3, isi_tup, gIx, ix2_0, ix2_1, gNe_int]
  · obtain ⟨S, hS⟩ : ∃ S, i * i - (q * q + u * u + v * v) = S := ⟨_, rfl⟩
    obtain ⟨H, hH⟩ : ∃ H, i * d - (q * a + u * b + v * c) = H := ⟨_, rfl⟩
    rw [decide_eq_false hz] at hm
    have h0 : 0 < H := by omega
    obtain ⟨A0, A1, A2, A3, A4, M, B0, B1, B2, B3, B4, N, e, lA, lB, hM, hN, ⟨a0, a1, a2, a3, a4⟩, b0, b1, b2, b3, b4⟩ := split_sp h2 g hS hH h0
    have s1 := e_lshine (lA.up (by decide : 480 ≤ 1400))
    have s2 := e_lshine (lB.up (by decide : 480 ≤ 1400))
    have o1 := parts_sum h2 h0 lA lB hM hN a0 a1 a2 a3 a4 b0 b1 b2 b3 b4
    have hm2 := e_ismul (lA.up (by decide : 480 ≤ 600)) g
    rw [decide_eq_true (null_of hM g.sph a0 a1 a2 a3)] at hm2
    have cB := rest_null hN (y_null hS hH g.sph) b0 b1 b2 b3
    have nB : (B0 == 0) = false := beq_eq_false_iff_ne.mpr fun z => by
      subst z
      obtain ⟨rfl, rfl, rfl, rfl⟩ := lt_dark lB
      have hy := y_shared (S := S) hH g.sph
      rw [b0, b1, b2, b3] at hy
      have := Int.mul_pos h0 h0
      simp only [Int.zero_mul] at hy
      omega
    have c1 := e_lcone (n := B4) (lB.si.sm (m := 4000)) (lB.sq.sm (m := 4000)) (lB.su.sm (m := 4000)) (lB.sv.sm (m := 4000))
    rw [cB] at c1
    have c2 := e_lcone (n := n) (h.si.sm (m := 4000)) (h.sq.sm (m := 4000)) (h.su.sm (m := 4000)) (h.sv.sm (m := 4000))
    rw [show i * i - q * q - u * u - v * v = S from by omega] at c2
    have k1 := e_pure (g.up (by decide : 60 ≤ 4000))
    have lK := (lt_kd g)
    have y1 := e_product (h.up (by decide : 60 ≤ 1000)) (lK.up (by decide : 60 ≤ 1000))
    have y2 := e_product (h.up (by decide : 60 ≤ 1000)) (h.up (by decide : 60 ≤ 1000))
    have f1 := fr_prod h lK
    have f2 := fr_prod h h
    rw [hH] at y1 f1
    rw [hS] at y2 f2
    have n0 := h.n0
    have P1 : 0 < n * d := Int.mul_pos n0 g.n0
    have P2 : 0 < n * n := Int.mul_pos n0 n0
    have q1 := isq_rt (p := H) P1
    have q2 := isq_rt (p := S) P2
    have gp := rg_pos (p := H) P1
    have hg : H / rg H (n * d) * rg H (n * d) = H := rg_p P1
    have H0 : 0 < H / rg H (n * d) := Classical.byContradiction fun z => by
      have := Int.mul_nonneg (by omega : 0 ≤ -(H / rg H (n * d))) (Int.le_of_lt gp)
      rw [Int.neg_mul, hg] at this
      omega
    have S0 : 0 ≤ S := by rw [← hS]; exact h.cone
    unfold Rt at y1 y2
    generalize H / rg H (n * d) = U, n * d / rg H (n * d) = V at y1 f1 q1 H0
    generalize S / rg S (n * n) = W, n * n / rg S (n * n) = X at y2 f2 q2
    have W0 : 0 ≤ W := by
      refine Classical.byContradiction fun z => ?_
      have z1 : W * (n * n) < 0 := Int.mul_neg_of_neg_of_pos (by omega) P2
      have z2 : 0 ≤ S * X := Int.mul_nonneg S0 (Int.le_of_lt f2.q0)
      unfold IsQ at q2
      omega
    have m1 : gMul (.int 2) (.int U) = some (.int (2 * U)) := gMul_ok (Sm.lit (by decide) (by decide)) f1.sp.sm
    have s2U : Sz 300 (2 * U) := ((Sm.sz (by unfold Sm; decide : Sm 2 (2 : Int))).mul f1.sp).by _ (by decide)
    have y3 := e_lby' f2.q0 (by omega : 0 < 2 * U) (f2.sp.by 300 (by decide)) (f2.sq.by 300 (by decide)) (f1.sq.by 300 (by decide)) s2U
    have Q0 : 0 < X * (2 * U) := Int.mul_pos f2.q0 (by omega)
    have fL : Fr 1000 (W * V / rg (W * V) (X * (2 * U))) (X * (2 * U) / rg (W * V) (X * (2 * U))) := rt_fr Q0 ((f2.sp.mul f1.sq).by _ (by decide)) ((f2.sq.mul s2U).by _ (by decide))
    have L0 : 0 ≤ W * V / rg (W * V) (X * (2 * U)) := Int.ediv_nonneg (Int.mul_nonneg W0 (Int.le_of_lt f1.q0)) (Int.le_of_lt (rg_pos Q0))
    have q3 : IsQ (W * V) (X * (2 * U)) (S * d) (2 * H * n) := by
      unfold IsQ at q1 q2 ⊢
      refine Int.eq_of_mul_eq_mul_left (Int.ne_of_gt n0) ?_
      have z1 : n * (W * V * (2 * H * n)) = 2 * (W * (n * n)) * (H * V) := by grind
      have z2 : n * (S * d * (X * (2 * U))) = 2 * (S * X) * (U * (n * d)) := by grind
      rw [z1, z2, q2, q1]
    have q4 : IsQ (W * V / rg (W * V) (X * (2 * U))) (X * (2 * U) / rg (W * V) (X * (2 * U))) (S * d) (2 * H * n) := by
      have q5 := isq_rt (p := W * V) Q0
      unfold IsQ at q3 q5 ⊢
      refine Int.eq_of_mul_eq_mul_left (Int.ne_of_gt Q0) ?_
      generalize W * V / rg (W * V) (X * (2 * U)) = y, X * (2 * U) / rg (W * V) (X * (2 * U)) = x at q5 ⊢
      generalize W * V = z, X * (2 * U) = w at q3 q5 ⊢
      have z1 : w * (y * (2 * H * n)) = (y * w) * (2 * H * n) := by grind
      rw [z1, q5]
      have z2 : z * x * (2 * H * n) = (z * (2 * H * n)) * x := by grind
      rw [z2, q3]
      grind
    have y4 := part_level n0 h0 g fL L0 q4 lA hM a0 a1 a2 a3 a4
    have zz : (A0 == 0) = (S == 0) := by
      have d0 := g.n0
      by_cases hs : S = 0
      · subst hs
        rw [Int.zero_mul] at a0
        rw [(Int.mul_eq_zero.mp a0.symm).resolve_right (by omega)]
      · have : A0 ≠ 0 := fun z => by
          subst z
          rw [Int.zero_mul] at a0
          rcases Int.mul_eq_zero.mp a0 with z | z <;> omega
        rw [beq_eq_false_iff_ne.mpr this, beq_eq_false_iff_ne.mpr hs]
    obtain ⟨ta, ra1, ra2, ra3⟩ := rep_R h.nice
    obtain ⟨tb, rb1, rb2, rb3⟩ := rep_R (nice_tup (nice_cons lA.nice (nice_cons lB.nice nice_nil)))
    obtain ⟨tc, rc1, rc2, rc3⟩ := rep_R lA.nice
    unfold Rt at y3
    clear h h2 g hnn hz hS hH lA lB hM hN a0 a1 a2 a3 a4 b0 b1 b2 b3 b4 lK f1 f2 q1 q2 q3 q4 fL L0 cB s2U
    simp only [fZip, zipD, gSum, intsOf, List.foldl_cons, List.foldl_nil, mkF, fRet, fRetL, fRetN, fSkip, fSeq, fNever, fSet, fAsg, fNew, fIfS, fDrop, fPar, fPar3, fSetc, fSetc2, fVar, fLit, fOp, fUn, fTup, fTup.datsOf, fLst, fNilA, fConsA, fStarA, fCelA, fOfL, fTru, fAndT, fOrT, fNotT, fAndV, fOrV, fNotV, fIf, fBi, fCall, fCallL, fCallFr, fPerm, callF, celOf, celsOk, norm, aName, aNil, aCons, aTup, setD, fSl, fIt, fItL, fItT, fFor, forGo, fLc, lcGo, fYes, wipeD, fCix, fList, fSlL, fPart, fNoPart, fChain, List.length_cons, List.length_nil, List.getElem?_cons_zero, List.getElem?_cons_succ, List.getElem?_nil, List.set_cons_zero, List.set_cons_succ, List.map_cons, List.map_nil, List.cons_append, List.nil_append, List.append_nil, List.replicate, List.take_zero, List.take_nil, List.take_succ_cons, ↓bsome, ↓msome, Option.bind_some, Option.map_some, Option.bind_none, Option.map_none, Nat.sub_self, Int.cast_ofNat_Int, Nat.reduceAdd, Nat.reduceMul, Nat.reduceSub, Nat.reduceLeDiff, Nat.reduceLT, Nat.zero_add, Nat.add_zero, and_self, and_true, true_and, if_true, if_false, ↓reduceIte, ite_true, Bool.true_eq_false, Bool.false_eq_true, beq_self_eq_true, Bool.and_self, Bool.not_true, Bool.not_false, decide_true, decide_false, gLen, gTyIs, gTyNot, tyOf, gNeg, gPlus, DL.gSub, gCmp, gInt, gAbs, gTuple, gMax, gMin, gGcd, LIM, gIx, F__law_split_right, b__law_split_right, e, hm, hm2, s1, s2, o1, ra1, ra2, rb1, rb2, rb3, rc1, rc2, rc3, isi_tup, gIx, ix2_0, ix2_1, ix5_0, gNe_int, gEq_int, nB, c1, c2, k1, y1, y2, m1, y3, y4, zz, gEq_bool]
end
end PL


set_option Elab.async false
set_option linter.all false
set_option maxRecDepth 100000
set_option maxHeartbeats 1000000
set_option exponentiation.threshold 20000
namespace PL
open PySem PySem.Spec L2 DL
section
variable {m : Nat} {i q u v n a b c d S H p r I Q U V N M : Int}
/-! a multiple split -/
theorem mul_S (h1 : p * i = I * M) (h2 : p * q = Q * M) (h3 : p * u = U * M) (h4 : p * v = V * M) (hS : i * i - (q * q + u * u + v * v) = S) : M * M * (I * I - (Q * Q + U * U + V * V)) = p * p * S := by
  have : M * M * (I * I - (Q * Q + U * U + V * V)) = (I * M) * (I * M) - ((Q * M) * (Q * M) + (U * M) * (U * M) + (V * M) * (V * M)) := by grind
  rw [this, ← h1, ← h2, ← h3, ← h4, ← hS]
  grind
theorem mul_H (h1 : p * i = I * M) (h2 : p * q = Q * M) (h3 : p * u = U * M) (h4 : p * v = V * M) (hH : i * d - (q * a + u * b + v * c) = H) : M * (I * d - (Q * a + U * b + V * c)) = p * H := by
  have : M * (I * d - (Q * a + U * b + V * c)) = (I * M) * d - ((Q * M) * a + (U * M) * b + (V * M) * c) := by grind
  rw [this, ← h1, ← h2, ← h3, ← h4, ← hH]
  grind
theorem mul_a {S' A x K : Int} (hS : M * M * S' = p * p * S) (e : S * x = A * K) : M * M * (S' * x) = p * K * (p * A) := by
  have : M * M * (S' * x) = (M * M * S') * x := by grind
  rw [this, hS]
  have : p * p * S * x = p * p * (S * x) := by grind
  rw [this, e]
  grind
theorem mul_n {H' A K : Int} (hH : M * H' = p * H) (h5 : r * n = N * M) (e : 2 * H * n = A * K) : M * M * (2 * H' * N) = p * K * (r * A) := by
  have : M * M * (2 * H' * N) = 2 * (M * H') * (N * M) := by grind
  rw [this, hH, ← h5]
  have : 2 * (p * H) * (r * n) = p * r * (2 * H * n) := by grind
  rw [this, e]
  grind
theorem mul_b {S' H' B x y Y K : Int} (hS : M * M * S' = p * p * S) (hH : M * H' = p * H) (hy : p * y = Y * M) (e : 2 * H * y + -1 * (S * x) = B * K) : M * M * (2 * H' * Y + -1 * (S' * x)) = p * K * (p * B) := by
  have : M * M * (2 * H' * Y + -1 * (S' * x)) = 2 * (M * H') * (Y * M) + -1 * ((M * M * S') * x) := by grind
  rw [this, hH, hS, ← hy]
  have : 2 * (p * H) * (p * y) + -1 * (p * p * S * x) = p * p * (2 * H * y + -1 * (S * x)) := by grind
  rw [this, e]
  grind
theorem e_scale (h : Lt 60 i q u v n) (g : Kd 60 a b c d) (f : Fr 60 p r) (p0 : 0 < p) : ∃ x y z x' y' t : PyData, F_split [.dat (T5 i q u v n), .dat (T4 a b c d)] [] = some (.dat (.tuple [x, y]), []) ∧ F_times [.dat (T5 i q u v n), .dat (T2 p r)] [] = some (.dat z, []) ∧
    F_split [.dat z, .dat (T4 a b c d)] [] = some (.dat (.tuple [x', y']), []) ∧ F_times [.dat x, .dat (T2 p r)] [] = some (.dat x', []) ∧ F_times [.dat y, .dat (T2 p r)] [] = some (.dat y', []) ∧ Rep (.tuple [x', y']) t := by
  obtain ⟨I, Q, U, V, N, M, e1, l1, hM, h1, h2, h3, h4, h5⟩ := times_sp h f (Int.le_of_lt p0)
  have hnn := sh_nn h g
  have P0 : 0 ≤ p := Int.le_of_lt p0
  by_cases hz : i * d - (q * a + u * b + v * c) = 0
  · have hz' : I * d - (Q * a + U * b + V * c) = 0 := by
      refine (Int.mul_eq_zero.mp ((mul_H h1 h2 h3 h4 hz).trans (Int.mul_zero p))).resolve_left (by omega)
    have e4 : F_times [.dat (T5 0 0 0 0 1), .dat (T2 p r)] [] = some (.dat (T5 0 0 0 0 1), []) := by
      rw [e_times (lt_dark0.up (by decide : 40 ≤ 1000)) (f.up (by decide)) P0]
      simp only [Int.mul_zero, Int.mul_one]
      rw [R5_dark f.q0]
    obtain ⟨t, ht⟩ := rep_R (nice_tup (nice_cons l1.nice (nice_cons (dark60.up (by decide : 60 ≤ 120)).nice nice_nil)))
    exact ⟨_, _, _, _, _, t, e_split0 (h.up (by decide)) g hz, e1, e_split0 (l1.up (by decide)) g hz', e1, e4, ht⟩
  · obtain ⟨S, hS⟩ : ∃ S, i * i - (q * q + u * u + v * v) = S := ⟨_, rfl⟩
    obtain ⟨H, hH⟩ : ∃ H, i * d - (q * a + u * b + v * c) = H := ⟨_, rfl⟩
    have h0 : 0 < H := by omega
    obtain ⟨A0, A1, A2, A3, A4, K, B0, B1, B2, B3, B4, L, e, lA, lB, hK, hL, ⟨a0, a1, a2, a3, a4⟩, b0, b1, b2, b3, b4⟩ := split_sp (h.up (by decide : 60 ≤ 200)) g hS hH h0
    have s1 := mul_S h1 h2 h3 h4 hS
    have s2 := mul_H h1 h2 h3 h4 hH
    generalize hS' : I * I - (Q * Q + U * U + V * V) = S' at s1
    generalize hH' : I * d - (Q * a + U * b + V * c) = H' at s2
    have h0' : 0 < H' := Classical.byContradiction fun z => by
      have z1 := Int.mul_nonneg (Int.le_of_lt hM) (by omega : 0 ≤ -H')
      have z2 := Int.mul_pos p0 h0
      rw [Int.mul_neg, s2] at z1
      omega
    have e2 := e_split1 (l1.up (by decide : 120 ≤ 200)) g hS' hH' h0'
    have e3 := e_times (lA.up (by decide : 480 ≤ 1000)) (f.up (by decide : 60 ≤ 1000)) P0
    have e4 := e_times (lB.up (by decide : 480 ≤ 1000)) (f.up (by decide : 60 ≤ 1000)) P0
    have MM := Int.mul_pos hM hM
    have x1 : R5 (S' * d) (S' * a) (S' * b) (S' * c) (2 * H' * N) = R5 (p * A0) (p * A1) (p * A2) (p * A3) (r * A4) := by
      refine R5_red (red_par MM (Int.mul_pos p0 hK) ?_)
      simp only [List.map_cons, List.map_nil, List.cons.injEq, and_true]
      exact ⟨mul_a s1 a0, mul_a s1 a1, mul_a s1 a2, mul_a s1 a3, mul_n s2 h5 a4⟩
    have x2 : R5 (2 * H' * I + -1 * (S' * d)) (2 * H' * Q + -1 * (S' * a)) (2 * H' * U + -1 * (S' * b)) (2 * H' * V + -1 * (S' * c)) (2 * H' * N) = R5 (p * B0) (p * B1) (p * B2) (p * B3) (r * B4) := by
      refine R5_red (red_par MM (Int.mul_pos p0 hL) ?_)
      simp only [List.map_cons, List.map_nil, List.cons.injEq, and_true]
      exact ⟨mul_b s1 s2 h1 b0, mul_b s1 s2 h2 b1, mul_b s1 s2 h3 b2, mul_b s1 s2 h4 b3, mul_n s2 h5 b4⟩
    rw [x1, x2] at e2
    obtain ⟨t, ht⟩ := rep_R (nice_tup (nice_cons (lt_times lA f P0).nice (nice_cons (lt_times lB f P0).nice nice_nil)))
    exact ⟨_, _, _, _, _, t, e, e1, e2, e3, e4, ht⟩
end
/-! two lights of two kinds, joined -/
section
variable {P0 P1 P2 P3 P4 Q0 Q1 Q2 Q3 Q4 W0 W1 W2 W3 W4 M1 M2 M3 a b c d a' b' c' d' p p' C S H : Int}
theorem jo_zero (hM : 0 < M1) (hs : a * a + b * b + c * c = d * d) (p0 : p * d = P0 * M1) (p1 : p * a = P1 * M1) (p2 : p * b = P2 * M1) (p3 : p * c = P3 * M1) : P0 * P0 - P1 * P1 - P2 * P2 - P3 * P3 = 0 := by
  refine rest_null (Y0 := p * d) (Y1 := p * a) (Y2 := p * b) (Y3 := p * c) hM ?_ p0 p1 p2 p3
  have : p * d * (p * d) - (p * a * (p * a) + p * b * (p * b) + p * c * (p * c)) = p * p * (d * d - (a * a + b * b + c * c)) := by grind
  rw [this, hs]
  grind
theorem jo_H (q0 : p' * d' = Q0 * M2) (q1 : p' * a' = Q1 * M2) (q2 : p' * b' = Q2 * M2) (q3 : p' * c' = Q3 * M2) (hC : d * d' - (a * a' + b * b' + c * c') = C) (hk : P0 * d - (P1 * a + P2 * b + P3 * c) = 0)
    (w0 : Q4 * P0 + P4 * Q0 = W0 * M3) (w1 : Q4 * P1 + P4 * Q1 = W1 * M3) (w2 : Q4 * P2 + P4 * Q2 = W2 * M3) (w3 : Q4 * P3 + P4 * Q3 = W3 * M3) : M2 * M3 * (W0 * d - (W1 * a + W2 * b + W3 * c)) = P4 * p' * C := by
  have e1 : M2 * M3 * (W0 * d - (W1 * a + W2 * b + W3 * c)) = M2 * ((W0 * M3) * d - ((W1 * M3) * a + (W2 * M3) * b + (W3 * M3) * c)) := by grind
  rw [e1, ← w0, ← w1, ← w2, ← w3]
  have e2 : M2 * ((Q4 * P0 + P4 * Q0) * d - ((Q4 * P1 + P4 * Q1) * a + (Q4 * P2 + P4 * Q2) * b + (Q4 * P3 + P4 * Q3) * c)) = M2 * Q4 * (P0 * d - (P1 * a + P2 * b + P3 * c)) + P4 * ((Q0 * M2) * d - ((Q1 * M2) * a + (Q2 * M2) * b + (Q3 * M2) * c)) := by grind
  rw [e2, hk, ← q0, ← q1, ← q2, ← q3, ← hC]
  grind
theorem jo_S (q0 : p' * d' = Q0 * M2) (q1 : p' * a' = Q1 * M2) (q2 : p' * b' = Q2 * M2) (q3 : p' * c' = Q3 * M2) (hP : P0 * P0 - P1 * P1 - P2 * P2 - P3 * P3 = 0) (hQ : Q0 * Q0 - Q1 * Q1 - Q2 * Q2 - Q3 * Q3 = 0)
    (w0 : Q4 * P0 + P4 * Q0 = W0 * M3) (w1 : Q4 * P1 + P4 * Q1 = W1 * M3) (w2 : Q4 * P2 + P4 * Q2 = W2 * M3) (w3 : Q4 * P3 + P4 * Q3 = W3 * M3) :
    M2 * M3 * M3 * (W0 * W0 - (W1 * W1 + W2 * W2 + W3 * W3)) = 2 * Q4 * P4 * p' * (P0 * d' - (P1 * a' + P2 * b' + P3 * c')) := by
  have e1 : M2 * M3 * M3 * (W0 * W0 - (W1 * W1 + W2 * W2 + W3 * W3)) = M2 * ((W0 * M3) * (W0 * M3) - ((W1 * M3) * (W1 * M3) + (W2 * M3) * (W2 * M3) + (W3 * M3) * (W3 * M3))) := by grind
  rw [e1, ← w0, ← w1, ← w2, ← w3]
  have e2 : M2 * ((Q4 * P0 + P4 * Q0) * (Q4 * P0 + P4 * Q0) - ((Q4 * P1 + P4 * Q1) * (Q4 * P1 + P4 * Q1) + (Q4 * P2 + P4 * Q2) * (Q4 * P2 + P4 * Q2) + (Q4 * P3 + P4 * Q3) * (Q4 * P3 + P4 * Q3))) =
      M2 * (Q4 * Q4) * (P0 * P0 - P1 * P1 - P2 * P2 - P3 * P3) + M2 * (P4 * P4) * (Q0 * Q0 - Q1 * Q1 - Q2 * Q2 - Q3 * Q3) + 2 * Q4 * P4 * (P0 * (Q0 * M2) - (P1 * (Q1 * M2) + P2 * (Q2 * M2) + P3 * (Q3 * M2))) := by grind
  rw [e2, hP, hQ, ← q0, ← q1, ← q2, ← q3]
  grind
theorem jo_o (p0 : p * d = P0 * M1) (p1 : p * a = P1 * M1) (p2 : p * b = P2 * M1) (p3 : p * c = P3 * M1) (hC : d * d' - (a * a' + b * b' + c * c') = C) : M1 * (P0 * d' - (P1 * a' + P2 * b' + P3 * c')) = p * C := by
  have : M1 * (P0 * d' - (P1 * a' + P2 * b' + P3 * c')) = (P0 * M1) * d' - ((P1 * M1) * a' + (P2 * M1) * b' + (P3 * M1) * c') := by grind
  rw [this, ← p0, ← p1, ← p2, ← p3, ← hC]
  grind
theorem jo_x {O x X : Int} (hM : 0 < M1) (ho : M1 * O = p * C) (hx : p * x = X * M1) : O * x = C * X := by
  refine Int.eq_of_mul_eq_mul_left (Int.ne_of_gt hM) ?_
  have e1 : M1 * (O * x) = (M1 * O) * x := by grind
  rw [e1, ho]
  have e2 : p * C * x = C * (p * x) := by grind
  rw [e2, hx]
  grind
theorem jo_a {O x X : Int} (hS : M2 * M3 * M3 * S = 2 * Q4 * P4 * p' * O) (hx : O * x = C * X) : M2 * M3 * M3 * (S * x) = 2 * Q4 * P4 * p' * C * X := by
  have e1 : M2 * M3 * M3 * (S * x) = (M2 * M3 * M3 * S) * x := by grind
  rw [e1, hS]
  have e2 : 2 * Q4 * P4 * p' * O * x = 2 * Q4 * P4 * p' * (O * x) := by grind
  rw [e2, hx]
  grind
theorem jo_n (hH : M2 * M3 * H = P4 * p' * C) (w4 : P4 * Q4 = W4 * M3) : M2 * M3 * M3 * (2 * H * W4) = 2 * Q4 * P4 * p' * C * P4 := by
  have e1 : M2 * M3 * M3 * (2 * H * W4) = 2 * (M2 * M3 * H) * (W4 * M3) := by grind
  rw [e1, hH, ← w4]
  grind
theorem jo_n' (hH : M2 * M3 * H = P4 * p' * C) (w4 : P4 * Q4 = W4 * M3) : M2 * M3 * M3 * (2 * H * W4) = 2 * P4 * P4 * p' * C * Q4 := by
  rw [jo_n hH w4]
  grind
theorem jo_b {x Xp Xq Wx : Int} (hH : M2 * M3 * H = P4 * p' * C) (hx : M2 * M3 * M3 * (S * x) = 2 * Q4 * P4 * p' * C * Xp) (hw : Q4 * Xp + P4 * Xq = Wx * M3) : M2 * M3 * M3 * (2 * H * Wx + -1 * (S * x)) = 2 * P4 * P4 * p' * C * Xq := by
  have e1 : M2 * M3 * M3 * (2 * H * Wx + -1 * (S * x)) = 2 * (M2 * M3 * H) * (Wx * M3) + -1 * (M2 * M3 * M3 * (S * x)) := by grind
  rw [e1, hH, hx, ← hw]
  grind
theorem join_sp {mP mQ : Nat} (g : Kd 60 a b c d) (g' : Kd 60 a' b' c' d') (hC : d * d' - (a * a' + b * b' + c * c') = C) (C0 : 0 < C) (lP : Lt mP P0 P1 P2 P3 P4) (lQ : Lt mQ Q0 Q1 Q2 Q3 Q4) (lW : Lt 200 W0 W1 W2 W3 W4)
    (h1 : 0 < M1) (h2 : 0 < M2) (h3 : 0 < M3) (hp' : 0 < p') (p0 : p * d = P0 * M1) (p1 : p * a = P1 * M1) (p2 : p * b = P2 * M1) (p3 : p * c = P3 * M1)
    (q0 : p' * d' = Q0 * M2) (q1 : p' * a' = Q1 * M2) (q2 : p' * b' = Q2 * M2) (q3 : p' * c' = Q3 * M2)
    (w0 : Q4 * P0 + P4 * Q0 = W0 * M3) (w1 : Q4 * P1 + P4 * Q1 = W1 * M3) (w2 : Q4 * P2 + P4 * Q2 = W2 * M3) (w3 : Q4 * P3 + P4 * Q3 = W3 * M3) (w4 : P4 * Q4 = W4 * M3) :
    F_split [.dat (T5 W0 W1 W2 W3 W4), .dat (T4 a b c d)] [] = some (.dat (.tuple [T5 P0 P1 P2 P3 P4, T5 Q0 Q1 Q2 Q3 Q4]), []) := by
  have hk := null_of h1 g.sph p0 p1 p2 p3
  have hH := jo_H q0 q1 q2 q3 hC hk w0 w1 w2 w3
  have hS := jo_S q0 q1 q2 q3 (jo_zero h1 g.sph p0 p1 p2 p3) (jo_zero h2 g'.sph q0 q1 q2 q3) w0 w1 w2 w3
  have ho := jo_o p0 p1 p2 p3 hC
  generalize hO : P0 * d' - (P1 * a' + P2 * b' + P3 * c') = O at hS ho
  generalize hS' : W0 * W0 - (W1 * W1 + W2 * W2 + W3 * W3) = S at hS
  generalize hH' : W0 * d - (W1 * a + W2 * b + W3 * c) = H at hH
  have P4p := lP.n0
  have Q4p := lQ.n0
  have B0 : 0 < P4 * p' * C := Int.mul_pos (Int.mul_pos P4p hp') C0
  have h0 : 0 < H := Classical.byContradiction fun z => by
    have z1 := Int.mul_nonneg (Int.le_of_lt (Int.mul_pos h2 h3)) (by omega : 0 ≤ -H)
    rw [Int.mul_neg, hH] at z1
    omega
  rw [e_split1 lW g hS' hH' h0, ← R5_one lP.one, ← R5_one lQ.one]
  have AA : 0 < M2 * M3 * M3 := Int.mul_pos (Int.mul_pos h2 h3) h3
  have BB : 0 < 2 * Q4 * P4 * p' * C := Int.mul_pos (Int.mul_pos (Int.mul_pos (by omega) P4p) hp') C0
  have BB' : 0 < 2 * P4 * P4 * p' * C := Int.mul_pos (Int.mul_pos (Int.mul_pos (by omega) P4p) hp') C0
  have a0 := jo_a hS (jo_x h1 ho p0)
  have a1 := jo_a hS (jo_x h1 ho p1)
  have a2 := jo_a hS (jo_x h1 ho p2)
  have a3 := jo_a hS (jo_x h1 ho p3)
  have x1 : R5 (S * d) (S * a) (S * b) (S * c) (2 * H * W4) = R5 P0 P1 P2 P3 P4 := by
    refine R5_red (red_par AA BB ?_)
    simp only [List.map_cons, List.map_nil, List.cons.injEq, and_true]
    exact ⟨a0, a1, a2, a3, jo_n hH w4⟩
  have x2 : R5 (2 * H * W0 + -1 * (S * d)) (2 * H * W1 + -1 * (S * a)) (2 * H * W2 + -1 * (S * b)) (2 * H * W3 + -1 * (S * c)) (2 * H * W4) = R5 Q0 Q1 Q2 Q3 Q4 := by
    refine R5_red (red_par AA BB' ?_)
    simp only [List.map_cons, List.map_nil, List.cons.injEq, and_true]
    exact ⟨jo_b hH a0 w0, jo_b hH a1 w1, jo_b hH a2 w2, jo_b hH a3 w3, jo_n' hH w4⟩
  rw [x1, x2]
end
end PL


set_option Elab.async false
set_option linter.all false
set_option maxRecDepth 100000
set_option maxHeartbeats 1000000
set_option exponentiation.threshold 20000
namespace PL
open PySem PySem.Spec L2 DL
theorem rt_pos {p q : Int} (hp : 0 < p) (hq : 0 < q) : 0 < p / rg p q := Classical.byContradiction fun z => by
  have h1 := rg_p (p := p) hq
  have h2 := Int.mul_nonneg (by omega : 0 ≤ -(p / rg p q)) (Int.le_of_lt (rg_pos (p := p) hq))
  rw [Int.neg_mul, h1] at h2
  omega
theorem gEqT4_t {a b c d a' b' c' d' : Int} (h : [a, b, c, d] = [a', b', c', d']) : gEq (T4 a b c d) (T4 a' b' c' d') = some (.bool true) := by rw [gEq_T4', decide_eq_true h]
theorem gEqT4_f {a b c d a' b' c' d' : Int} (h : [a, b, c, d] ≠ [a', b', c', d']) : gEq (T4 a b c d) (T4 a' b' c' d') = some (.bool false) := by rw [gEq_T4', decide_eq_false h]
theorem frac_1 {s : Int} (h : 0 < s) (hs : s ≤ 100) : Fr 40 1 s := ⟨h, by simp only [gL, Int.natAbs_one, Nat.gcd_one_left], sz_1.by _ (by decide), (sz_of (by omega) (by omega : s < 2 ^ 60)) |> fun z => Sz.of40 (by omega)⟩
/-- a level, and a whole part added -/
theorem lvl_plus {p r s : Int} (f : Fr 40 p r) (p0 : 0 ≤ p) (h : 0 < s) (hs : s ≤ 100) : ∃ P R : Int, F__law_plus [.dat (T2 1 s), .dat (T2 p r)] [] = some (.dat (T2 P R), []) ∧ Fr 60 P R ∧ 0 < P := by
  have e := e_lplus ((frac_1 h hs).up (by decide : 40 ≤ 300)) (f.up (by decide : 40 ≤ 300))
  have r0 := f.q0
  have ss : Sz 7 s := Sm.sz (by unfold Sm; omega)
  have hP : 0 < 1 * r + p * s := by
    have := Int.mul_nonneg p0 (Int.le_of_lt h)
    omega
  refine ⟨_, _, e, rt_fr (Int.mul_pos h r0) ?_ ?_, rt_pos hP (Int.mul_pos h r0)⟩
  · exact ((sz_1.mul f.sq).add (f.sp.mul ss)).by _ (by decide)
  · exact (ss.mul f.sq).by _ (by decide)
theorem e_joined {k : Nat} {t : List PyData} {a b c d : Int} (h : Tap (k + 17) t) (g : Kd 40 a b c d) : ∃ t', F__law_joined_right [.cel 0, .dat (T4 a b c d)] [t] = some (.dat (.bool true), [t']) ∧ Tap k t' := by
  obtain ⟨hq, hu, hv, hn, t1, e1, h1, hk⟩ := e_hue (k := k + 12) h
  obtain ⟨p, r, t2, e2, h2, fr, p0⟩ := e_level' (k := k + 6) h1
  obtain ⟨p9, r9, t3, e3, h3, fr9, p09⟩ := e_level' (k := k) h2
  obtain ⟨p', r', e4, fr', p0'⟩ := lvl_plus fr9 p09 (by decide : (0 : Int) < 7) (by decide)
  have own : ∃ a' b' c' d' : Int, Kd 40 a' b' c' d' ∧ [a', b', c', d'] ≠ [a, b, c, d] ∧ (fIfS (fTru (fOp gEq (fVar 2) (fVar 1))) (fSet 2 (fTup (fConsA (fOp gSub (fLit (.int 0)) (fOp gIx (fVar 1) (fLit (.int 0)))) (fConsA (fOp gSub (fLit (.int 0)) (fOp gIx (fVar 1) (fLit (.int 1)))) (fConsA (fOp gSub (fLit (.int 0)) (fOp gIx (fVar 1) (fLit (.int 2)))) (fConsA (fOp gIx (fVar 1) (fLit (.int 3))) fNilA)))))) fSkip) ⟨[some (.cel 0), some (.dat (T4 a b c d)), some (.dat (T4 hq hu hv hn)), none, none, none, none], [t1]⟩ = some (.nx ⟨[some (.cel 0), some (.dat (T4 a b c d)), some (.dat (T4 a' b' c' d')), none, none, none, none], [t1]⟩) := by
    by_cases heq : [hq, hu, hv, hn] = [a, b, c, d]
    · have e := gEqT4_t heq
      have d0 := g.n0
      have hs := g.sph
      refine ⟨_, _, _, _, g.neg, fun z => ?_, ?_⟩
      · simp only [List.cons.injEq, and_true] at z
        obtain ⟨z1, z2, z3⟩ := z
        have y1 : a = 0 := by omega
        have y2 : b = 0 := by omega
        have y3 : c = 0 := by omega
        subst y1 y2 y3
        have := Int.mul_pos d0 d0
        omega
      · clear hk h1 h2 h3 fr fr9 fr' g
        simp only [fZip, zipD, gSum, intsOf, List.foldl_cons, List.foldl_nil, mkF, fRet, fRetL, fRetN, fSkip, fSeq, fNever, fSet, fAsg, fNew, fIfS, fDrop, fPar, fPar3, fSetc, fSetc2, fVar, fLit, fOp, fUn, fTup, fTup.datsOf, fLst, fNilA, fConsA, fStarA, fCelA, fOfL, fTru, fAndT, fOrT, fNotT, fAndV, fOrV, fNotV, fIf, fBi, fCall, fCallL, fCallFr, fPerm, callF, celOf, celsOk, norm, aName, aNil, aCons, aTup, setD, fSl, fIt, fItL, fItT, fFor, forGo, fLc, lcGo, fYes, wipeD, fCix, fList, fSlL, fPart, fNoPart, fChain, List.length_cons, List.length_nil, List.getElem?_cons_zero, List.getElem?_cons_succ, List.getElem?_nil, List.set_cons_zero, List.set_cons_succ, List.map_cons, List.map_nil, List.cons_append, List.nil_append, List.append_nil, List.replicate, List.take_zero, List.take_nil, List.take_succ_cons, ↓bsome, ↓msome, Option.bind_some, Option.map_some, Option.bind_none, Option.map_none, Nat.sub_self, Int.cast_ofNat_Int, Nat.reduceAdd, Nat.reduceMul, Nat.reduceSub, Nat.reduceLeDiff, Nat.reduceLT, Nat.zero_add, Nat.add_zero, and_self, and_true, true_and, if_true, if_false, ↓reduceIte, ite_true, Bool.true_eq_false, Bool.false_eq_true, beq_self_eq_true, Bool.and_self, Bool.not_true, Bool.not_false, decide_true, decide_false, gLen, gTyIs, gTyNot, tyOf, gNeg, gPlus, DL.gSub, gCmp, gInt, gAbs, gTuple, gMax, gMin, gGcd, LIM, gIx, e, gIx, ix4_0, ix4_1, ix4_2, ix4_3]
    · have e := gEqT4_f heq
      refine ⟨_, _, _, _, hk.up (by decide), heq, ?_⟩
      clear hk h1 h2 h3 fr fr9 fr' g
      simp only [fZip, zipD, gSum, intsOf, List.foldl_cons, List.foldl_nil, mkF, fRet, fRetL, fRetN, fSkip, fSeq, fNever, fSet, fAsg, fNew, fIfS, fDrop, fPar, fPar3, fSetc, fSetc2, fVar, fLit, fOp, fUn, fTup, fTup.datsOf, fLst, fNilA, fConsA, fStarA, fCelA, fOfL, fTru, fAndT, fOrT, fNotT, fAndV, fOrV, fNotV, fIf, fBi, fCall, fCallL, fCallFr, fPerm, callF, celOf, celsOk, norm, aName, aNil, aCons, aTup, setD, fSl, fIt, fItL, fItT, fFor, forGo, fLc, lcGo, fYes, wipeD, fCix, fList, fSlL, fPart, fNoPart, fChain, List.length_cons, List.length_nil, List.getElem?_cons_zero, List.getElem?_cons_succ, List.getElem?_nil, List.set_cons_zero, List.set_cons_succ, List.map_cons, List.map_nil, List.cons_append, List.nil_append, List.append_nil, List.replicate, List.take_zero, List.take_nil, List.take_succ_cons, ↓bsome, ↓msome, Option.bind_some, Option.map_some, Option.bind_none, Option.map_none, Nat.sub_self, Int.cast_ofNat_Int, Nat.reduceAdd, Nat.reduceMul, Nat.reduceSub, Nat.reduceLeDiff, Nat.reduceLT, Nat.zero_add, Nat.add_zero, and_self, and_true, true_and, if_true, if_false, ↓reduceIte, ite_true, Bool.true_eq_false, Bool.false_eq_true, beq_self_eq_true, Bool.and_self, Bool.not_true, Bool.not_false, decide_true, decide_false, gLen, gTyIs, gTyNot, tyOf, gNeg, gPlus, DL.gSub, gCmp, gInt, gAbs, gTuple, gMax, gMin, gGcd, LIM, gIx, e]
  obtain ⟨a', b', c', d', g', ne, sel⟩ := own
  have G := g.up (by decide : 40 ≤ 60)
  have G' := g'.up (by decide : 40 ≤ 60)
  have lK := lt_kd g
  have lO := lt_kd g'
  have hz := sh_zero (lt_kd G') G'.n0 G
  have hnn := sh_nn (lt_kd G') G
  obtain ⟨C, hC'⟩ : ∃ C, d' * d - (a' * a + b' * b + c' * c) = C := ⟨_, rfl⟩
  rw [hC'] at hz hnn
  have C0 : 0 < C := by
    have : C ≠ 0 := fun z => ne (by rw [← red_of_one g'.one]; exact (hz.mpr z).2)
    omega
  have hC : d * d' - (a * a' + b * b' + c * c') = C := by rw [← hC']; grind
  obtain ⟨P0, P1, P2, P3, P4, M1, y1, lP, hM1, x0, x1, x2, x3, x4⟩ := times_sp lK fr p0
  obtain ⟨Q0, Q1, Q2, Q3, Q4, M2, y2, lQ, hM2, z0, z1, z2, z3, z4⟩ := times_sp lO fr' (Int.le_of_lt p0')
  obtain ⟨W0, W1, W2, W3, W4, M3, y3, lW, hM3, w0, w1, w2, w3, w4⟩ := added_sp lP lQ
  have lW' := lW.up (by decide : 80 + 100 + 1 ≤ 200)
  have k1 := e_pure (g.up (by decide : 40 ≤ 4000))
  have k2 := e_pure (g'.up (by decide : 40 ≤ 4000))
  have s1 := join_sp G G' hC C0 lP lQ lW' hM1 hM2 hM3 p0' x0 x1 x2 x3 z0 z1 z2 z3 w0 w1 w2 w3 w4
  obtain ⟨ta, ra1, ra2, ra3⟩ := rep_R (nice_tup (nice_cons (lP.up (by decide : 80 ≤ 200)).nice (nice_cons (lQ.up (by decide : 100 ≤ 200)).nice nice_nil)))
  have due : ∃ D0 D1 D2 D3 D4 : Int, (fSet 6 (fIf (fTru (fOp (gCmp fun i j => decide (j < i)) (fOp gIx (fVar 3) (fLit (.int 0))) (fLit (.int 0)))) (fTup (fConsA (fVar 4) (fConsA (fVar 3) fNilA))) (fTup (fConsA (fVar 4) (fConsA (fTup (fConsA (fLit (.int 0)) (fConsA (fLit (.int 0)) (fConsA (fLit (.int 0)) (fConsA (fLit (.int 0)) (fConsA (fLit (.int 1)) fNilA)))))) fNilA))))) ⟨[some (.cel 0), some (.dat (T4 a b c d)), some (.dat (T4 a' b' c' d')), some (.dat (T5 P0 P1 P2 P3 P4)), some (.dat (T5 Q0 Q1 Q2 Q3 Q4)), some (.dat (T5 W0 W1 W2 W3 W4)), none], [t3]⟩ = some (.nx ⟨[some (.cel 0), some (.dat (T4 a b c d)), some (.dat (T4 a' b' c' d')), some (.dat (T5 P0 P1 P2 P3 P4)), some (.dat (T5 Q0 Q1 Q2 Q3 Q4)), some (.dat (T5 W0 W1 W2 W3 W4)), some (.dat (.tuple [T5 Q0 Q1 Q2 Q3 Q4, T5 D0 D1 D2 D3 D4]))], [t3]⟩) ∧ Lt 100 D0 D1 D2 D3 D4 ∧
      F_split [.dat (T5 W0 W1 W2 W3 W4), .dat (T4 a' b' c' d')] [] = some (.dat (.tuple [T5 Q0 Q1 Q2 Q3 Q4, T5 D0 D1 D2 D3 D4]), []) := by
    by_cases hp : 0 < P0
    · have pp : 0 < p := Classical.byContradiction fun z => by
        have e : p = 0 := by omega
        rw [e, Int.zero_mul] at x0
        have := Int.mul_pos hp hM1
        omega
      refine ⟨_, _, _, _, _, ?_, lP.up (by decide), join_sp G' G hC' C0 lQ lP lW' hM2 hM1 hM3 pp z0 z1 z2 z3 x0 x1 x2 x3 ((Int.add_comm _ _).trans w0) ((Int.add_comm _ _).trans w1) ((Int.add_comm _ _).trans w2) ((Int.add_comm _ _).trans w3) ((Int.mul_comm _ _).trans w4)⟩
      clear s1 lP lQ lW lW' lK lO g g' G G' hk h1 h2 h3 fr fr9 fr' x0 x1 x2 x3 x4 z0 z1 z2 z3 z4 w0 w1 w2 w3 w4
      simp only [fZip, zipD, gSum, intsOf, List.foldl_cons, List.foldl_nil, mkF, fRet, fRetL, fRetN, fSkip, fSeq, fNever, fSet, fAsg, fNew, fIfS, fDrop, fPar, fPar3, fSetc, fSetc2, fVar, fLit, fOp, fUn, fTup, fTup.datsOf, fLst, fNilA, fConsA, fStarA, fCelA, fOfL, fTru, fAndT, fOrT, fNotT, fAndV, fOrV, fNotV, fIf, fBi, fCall, fCallL, fCallFr, fPerm, callF, celOf, celsOk, norm, aName, aNil, aCons, aTup, setD, fSl, fIt, fItL, fItT, fFor, forGo, fLc, lcGo, fYes, wipeD, fCix, fList, fSlL, fPart, fNoPart, fChain, List.length_cons, List.length_nil, List.getElem?_cons_zero, List.getElem?_cons_succ, List.getElem?_nil, List.set_cons_zero, List.set_cons_succ, List.map_cons, List.map_nil, List.cons_append, List.nil_append, List.append_nil, List.replicate, List.take_zero, List.take_nil, List.take_succ_cons, ↓bsome, ↓msome, Option.bind_some, Option.map_some, Option.bind_none, Option.map_none, Nat.sub_self, Int.cast_ofNat_Int, Nat.reduceAdd, Nat.reduceMul, Nat.reduceSub, Nat.reduceLeDiff, Nat.reduceLT, Nat.zero_add, Nat.add_zero, and_self, and_true, true_and, if_true, if_false, ↓reduceIte, ite_true, Bool.true_eq_false, Bool.false_eq_true, beq_self_eq_true, Bool.and_self, Bool.not_true, Bool.not_false, decide_true, decide_false, gLen, gTyIs, gTyNot, tyOf, gNeg, gPlus, DL.gSub, gCmp, gInt, gAbs, gTuple, gMax, gMin, gGcd, LIM, gIx, gIx, ix5_0, hp]
    · have e0 : P0 = 0 := by have := lP.i0; omega
      subst e0
      obtain ⟨rfl, rfl, rfl, rfl⟩ := lt_dark lP
      have eW : T5 W0 W1 W2 W3 W4 = T5 Q0 Q1 Q2 Q3 Q4 := by
        have e := e_added (lP.up (by decide : 80 ≤ 1000)) (lQ.up (by decide : 100 ≤ 1000))
        rw [y3] at e
        simp only [Int.mul_zero, Int.one_mul, Int.zero_add] at e
        rw [R5_one lQ.one] at e
        simpa using e
      have sh : W0 * d' - (W1 * a' + W2 * b' + W3 * c') = 0 := by
        have hk := null_of hM2 g'.sph z0 z1 z2 z3
        simp only [PyData.tuple.injEq, List.cons.injEq, PyData.int.injEq, and_true] at eW
        obtain ⟨rfl, rfl, rfl, rfl, rfl⟩ := eW
        exact hk
      refine ⟨0, 0, 0, 0, 1, ?_, lt_dark0.up (by decide), ?_⟩
      · clear s1 lP lQ lW lW' lK lO g g' G G' hk h1 h2 h3 fr fr9 fr' x0 x1 x2 x3 x4 z0 z1 z2 z3 z4 w0 w1 w2 w3 w4
        simp only [fZip, zipD, gSum, intsOf, List.foldl_cons, List.foldl_nil, mkF, fRet, fRetL, fRetN, fSkip, fSeq, fNever, fSet, fAsg, fNew, fIfS, fDrop, fPar, fPar3, fSetc, fSetc2, fVar, fLit, fOp, fUn, fTup, fTup.datsOf, fLst, fNilA, fConsA, fStarA, fCelA, fOfL, fTru, fAndT, fOrT, fNotT, fAndV, fOrV, fNotV, fIf, fBi, fCall, fCallL, fCallFr, fPerm, callF, celOf, celsOk, norm, aName, aNil, aCons, aTup, setD, fSl, fIt, fItL, fItT, fFor, forGo, fLc, lcGo, fYes, wipeD, fCix, fList, fSlL, fPart, fNoPart, fChain, List.length_cons, List.length_nil, List.getElem?_cons_zero, List.getElem?_cons_succ, List.getElem?_nil, List.set_cons_zero, List.set_cons_succ, List.map_cons, List.map_nil, List.cons_append, List.nil_append, List.append_nil, List.replicate, List.take_zero, List.take_nil, List.take_succ_cons, ↓bsome, ↓msome, Option.bind_some, Option.map_some, Option.bind_none, Option.map_none, Nat.sub_self, Int.cast_ofNat_Int, Nat.reduceAdd, Nat.reduceMul, Nat.reduceSub, Nat.reduceLeDiff, Nat.reduceLT, Nat.zero_add, Nat.add_zero, and_self, and_true, true_and, if_true, if_false, ↓reduceIte, ite_true, Bool.true_eq_false, Bool.false_eq_true, beq_self_eq_true, Bool.and_self, Bool.not_true, Bool.not_false, decide_true, decide_false, gLen, gTyIs, gTyNot, tyOf, gNeg, gPlus, DL.gSub, gCmp, gInt, gAbs, gTuple, gMax, gMin, gGcd, LIM, gIx, gIx, ix5_0, hp]
      · rw [e_split0 lW' G' sh, eW]
  obtain ⟨D0, D1, D2, D3, D4, f6, lD, s2⟩ := due
  obtain ⟨tb, rb1, rb2, rb3⟩ := rep_R (nice_tup (nice_cons (lQ.up (by decide : 100 ≤ 200)).nice (nice_cons (lD.up (by decide : 100 ≤ 200)).nice nice_nil)))
  refine ⟨t3, ?_, h3⟩
  clear lP lQ lW lW' lK lO lD g g' G G' hk h1 h2 h3 fr fr9 fr' x0 x1 x2 x3 x4 z0 z1 z2 z3 z4 w0 w1 w2 w3 w4
  have c0 : (fSet 2 (fCall F__law_hue (fCelA 0 fNilA))) ⟨[some (.cel 0), some (.dat (T4 a b c d)), none, none, none, none, none], [t]⟩ = some (.nx ⟨[some (.cel 0), some (.dat (T4 a b c d)), some (.dat (T4 hq hu hv hn)), none, none, none, none], [t1]⟩) := by
    simp only [fZip, zipD, gSum, intsOf, List.foldl_cons, List.foldl_nil, mkF, fRet, fRetL, fRetN, fSkip, fSeq, fNever, fSet, fAsg, fNew, fIfS, fDrop, fPar, fPar3, fSetc, fSetc2, fVar, fLit, fOp, fUn, fTup, fTup.datsOf, fLst, fNilA, fConsA, fStarA, fCelA, fOfL, fTru, fAndT, fOrT, fNotT, fAndV, fOrV, fNotV, fIf, fBi, fCall, fCallL, fCallFr, fPerm, callF, celOf, celsOk, norm, aName, aNil, aCons, aTup, setD, fSl, fIt, fItL, fItT, fFor, forGo, fLc, lcGo, fYes, wipeD, fCix, fList, fSlL, fPart, fNoPart, fChain, List.length_cons, List.length_nil, List.getElem?_cons_zero, List.getElem?_cons_succ, List.getElem?_nil, List.set_cons_zero, List.set_cons_succ, List.map_cons, List.map_nil, List.cons_append, List.nil_append, List.append_nil, List.replicate, List.take_zero, List.take_nil, List.take_succ_cons, ↓bsome, ↓msome, Option.bind_some, Option.map_some, Option.bind_none, Option.map_none, Nat.sub_self, Int.cast_ofNat_Int, Nat.reduceAdd, Nat.reduceMul, Nat.reduceSub, Nat.reduceLeDiff, Nat.reduceLT, Nat.zero_add, Nat.add_zero, and_self, and_true, true_and, if_true, if_false, ↓reduceIte, ite_true, Bool.true_eq_false, Bool.false_eq_true, beq_self_eq_true, Bool.and_self, Bool.not_true, Bool.not_false, decide_true, decide_false, gLen, gTyIs, gTyNot, tyOf, gNeg, gPlus, DL.gSub, gCmp, gInt, gAbs, gTuple, gMax, gMin, gGcd, LIM, gIx, e1]
  have c1 : (fIfS (fTru (fOp gEq (fVar 2) (fVar 1))) (fSet 2 (fTup (fConsA (fOp gSub (fLit (.int 0)) (fOp gIx (fVar 1) (fLit (.int 0)))) (fConsA (fOp gSub (fLit (.int 0)) (fOp gIx (fVar 1) (fLit (.int 1)))) (fConsA (fOp gSub (fLit (.int 0)) (fOp gIx (fVar 1) (fLit (.int 2)))) (fConsA (fOp gIx (fVar 1) (fLit (.int 3))) fNilA)))))) fSkip) ⟨[some (.cel 0), some (.dat (T4 a b c d)), some (.dat (T4 hq hu hv hn)), none, none, none, none], [t1]⟩ = some (.nx ⟨[some (.cel 0), some (.dat (T4 a b c d)), some (.dat (T4 a' b' c' d')), none, none, none, none], [t1]⟩) := by
    exact sel
  have c2 : (fSet 3 (fCall F_times (fConsA (fCall F_pure_light (fConsA (fVar 1) fNilA)) (fConsA (fCall F__law_level (fCelA 0 fNilA)) fNilA)))) ⟨[some (.cel 0), some (.dat (T4 a b c d)), some (.dat (T4 a' b' c' d')), none, none, none, none], [t1]⟩ = some (.nx ⟨[some (.cel 0), some (.dat (T4 a b c d)), some (.dat (T4 a' b' c' d')), some (.dat (T5 P0 P1 P2 P3 P4)), none, none, none], [t2]⟩) := by
    simp only [fZip, zipD, gSum, intsOf, List.foldl_cons, List.foldl_nil, mkF, fRet, fRetL, fRetN, fSkip, fSeq, fNever, fSet, fAsg, fNew, fIfS, fDrop, fPar, fPar3, fSetc, fSetc2, fVar, fLit, fOp, fUn, fTup, fTup.datsOf, fLst, fNilA, fConsA, fStarA, fCelA, fOfL, fTru, fAndT, fOrT, fNotT, fAndV, fOrV, fNotV, fIf, fBi, fCall, fCallL, fCallFr, fPerm, callF, celOf, celsOk, norm, aName, aNil, aCons, aTup, setD, fSl, fIt, fItL, fItT, fFor, forGo, fLc, lcGo, fYes, wipeD, fCix, fList, fSlL, fPart, fNoPart, fChain, List.length_cons, List.length_nil, List.getElem?_cons_zero, List.getElem?_cons_succ, List.getElem?_nil, List.set_cons_zero, List.set_cons_succ, List.map_cons, List.map_nil, List.cons_append, List.nil_append, List.append_nil, List.replicate, List.take_zero, List.take_nil, List.take_succ_cons, ↓bsome, ↓msome, Option.bind_some, Option.map_some, Option.bind_none, Option.map_none, Nat.sub_self, Int.cast_ofNat_Int, Nat.reduceAdd, Nat.reduceMul, Nat.reduceSub, Nat.reduceLeDiff, Nat.reduceLT, Nat.zero_add, Nat.add_zero, and_self, and_true, true_and, if_true, if_false, ↓reduceIte, ite_true, Bool.true_eq_false, Bool.false_eq_true, beq_self_eq_true, Bool.and_self, Bool.not_true, Bool.not_false, decide_true, decide_false, gLen, gTyIs, gTyNot, tyOf, gNeg, gPlus, DL.gSub, gCmp, gInt, gAbs, gTuple, gMax, gMin, gGcd, LIM, gIx, k1, e2, y1]
  have c3 : (fSet 4 (fCall F_times (fConsA (fCall F_pure_light (fConsA (fVar 2) fNilA)) (fConsA (fCall F__law_plus (fConsA (fTup (fConsA (fLit (.int 1)) (fConsA (fLit (.int 7)) fNilA))) (fConsA (fCall F__law_level (fCelA 0 fNilA)) fNilA))) fNilA)))) ⟨[some (.cel 0), some (.dat (T4 a b c d)), some (.dat (T4 a' b' c' d')), some (.dat (T5 P0 P1 P2 P3 P4)), none, none, none], [t2]⟩ = some (.nx ⟨[some (.cel 0), some (.dat (T4 a b c d)), some (.dat (T4 a' b' c' d')), some (.dat (T5 P0 P1 P2 P3 P4)), some (.dat (T5 Q0 Q1 Q2 Q3 Q4)), none, none], [t3]⟩) := by
    simp only [fZip, zipD, gSum, intsOf, List.foldl_cons, List.foldl_nil, mkF, fRet, fRetL, fRetN, fSkip, fSeq, fNever, fSet, fAsg, fNew, fIfS, fDrop, fPar, fPar3, fSetc, fSetc2, fVar, fLit, fOp, fUn, fTup, fTup.datsOf, fLst, fNilA, fConsA, fStarA, fCelA, fOfL, fTru, fAndT, fOrT, fNotT, fAndV, fOrV, fNotV, fIf, fBi, fCall, fCallL, fCallFr, fPerm, callF, celOf, celsOk, norm, aName, aNil, aCons, aTup, setD, fSl, fIt, fItL, fItT, fFor, forGo, fLc, lcGo, fYes, wipeD, fCix, fList, fSlL, fPart, fNoPart, fChain, List.length_cons, List.length_nil, List.getElem?_cons_zero, List.getElem?_cons_succ, List.getElem?_nil, List.set_cons_zero, List.set_cons_succ, List.map_cons, List.map_nil, List.cons_append, List.nil_append, List.append_nil, List.replicate, List.take_zero, List.take_nil, List.take_succ_cons, ↓bsome, ↓msome, Option.bind_some, Option.map_some, Option.bind_none, Option.map_none, Nat.sub_self, Int.cast_ofNat_Int, Nat.reduceAdd, Nat.reduceMul, Nat.reduceSub, Nat.reduceLeDiff, Nat.reduceLT, Nat.zero_add, Nat.add_zero, and_self, and_true, true_and, if_true, if_false, ↓reduceIte, ite_true, Bool.true_eq_false, Bool.false_eq_true, beq_self_eq_true, Bool.and_self, Bool.not_true, Bool.not_false, decide_true, decide_false, gLen, gTyIs, gTyNot, tyOf, gNeg, gPlus, DL.gSub, gCmp, gInt, gAbs, gTuple, gMax, gMin, gGcd, LIM, gIx, k2, e3, e4, y2]
  have c4 : (fSet 5 (fCall F_added (fConsA (fVar 3) (fConsA (fVar 4) fNilA)))) ⟨[some (.cel 0), some (.dat (T4 a b c d)), some (.dat (T4 a' b' c' d')), some (.dat (T5 P0 P1 P2 P3 P4)), some (.dat (T5 Q0 Q1 Q2 Q3 Q4)), none, none], [t3]⟩ = some (.nx ⟨[some (.cel 0), some (.dat (T4 a b c d)), some (.dat (T4 a' b' c' d')), some (.dat (T5 P0 P1 P2 P3 P4)), some (.dat (T5 Q0 Q1 Q2 Q3 Q4)), some (.dat (T5 W0 W1 W2 W3 W4)), none], [t3]⟩) := by
    simp only [fZip, zipD, gSum, intsOf, List.foldl_cons, List.foldl_nil, mkF, fRet, fRetL, fRetN, fSkip, fSeq, fNever, fSet, fAsg, fNew, fIfS, fDrop, fPar, fPar3, fSetc, fSetc2, fVar, fLit, fOp, fUn, fTup, fTup.datsOf, fLst, fNilA, fConsA, fStarA, fCelA, fOfL, fTru, fAndT, fOrT, fNotT, fAndV, fOrV, fNotV, fIf, fBi, fCall, fCallL, fCallFr, fPerm, callF, celOf, celsOk, norm, aName, aNil, aCons, aTup, setD, fSl, fIt, fItL, fItT, fFor, forGo, fLc, lcGo, fYes, wipeD, fCix, fList, fSlL, fPart, fNoPart, fChain, List.length_cons, List.length_nil, List.getElem?_cons_zero, List.getElem?_cons_succ, List.getElem?_nil, List.set_cons_zero, List.set_cons_succ, List.map_cons, List.map_nil, List.cons_append, List.nil_append, List.append_nil, List.replicate, List.take_zero, List.take_nil, List.take_succ_cons, ↓bsome, ↓msome, Option.bind_some, Option.map_some, Option.bind_none, Option.map_none, Nat.sub_self, Int.cast_ofNat_Int, Nat.reduceAdd, Nat.reduceMul, Nat.reduceSub, Nat.reduceLeDiff, Nat.reduceLT, Nat.zero_add, Nat.add_zero, and_self, and_true, true_and, if_true, if_false, ↓reduceIte, ite_true, Bool.true_eq_false, Bool.false_eq_true, beq_self_eq_true, Bool.and_self, Bool.not_true, Bool.not_false, decide_true, decide_false, gLen, gTyIs, gTyNot, tyOf, gNeg, gPlus, DL.gSub, gCmp, gInt, gAbs, gTuple, gMax, gMin, gGcd, LIM, gIx, y3]
  have c5 : (fIfS (fTru (fOp gNe (fBi gRepr (fConsA (fCall F_split (fConsA (fVar 5) (fConsA (fVar 1) fNilA))) fNilA)) (fBi gRepr (fConsA (fTup (fConsA (fVar 3) (fConsA (fVar 4) fNilA))) fNilA)))) (fRet (fLit (.bool false))) fSkip) ⟨[some (.cel 0), some (.dat (T4 a b c d)), some (.dat (T4 a' b' c' d')), some (.dat (T5 P0 P1 P2 P3 P4)), some (.dat (T5 Q0 Q1 Q2 Q3 Q4)), some (.dat (T5 W0 W1 W2 W3 W4)), none], [t3]⟩ = some (.nx ⟨[some (.cel 0), some (.dat (T4 a b c d)), some (.dat (T4 a' b' c' d')), some (.dat (T5 P0 P1 P2 P3 P4)), some (.dat (T5 Q0 Q1 Q2 Q3 Q4)), some (.dat (T5 W0 W1 W2 W3 W4)), none], [t3]⟩) := by
    simp only [fZip, zipD, gSum, intsOf, List.foldl_cons, List.foldl_nil, mkF, fRet, fRetL, fRetN, fSkip, fSeq, fNever, fSet, fAsg, fNew, fIfS, fDrop, fPar, fPar3, fSetc, fSetc2, fVar, fLit, fOp, fUn, fTup, fTup.datsOf, fLst, fNilA, fConsA, fStarA, fCelA, fOfL, fTru, fAndT, fOrT, fNotT, fAndV, fOrV, fNotV, fIf, fBi, fCall, fCallL, fCallFr, fPerm, callF, celOf, celsOk, norm, aName, aNil, aCons, aTup, setD, fSl, fIt, fItL, fItT, fFor, forGo, fLc, lcGo, fYes, wipeD, fCix, fList, fSlL, fPart, fNoPart, fChain, List.length_cons, List.length_nil, List.getElem?_cons_zero, List.getElem?_cons_succ, List.getElem?_nil, List.set_cons_zero, List.set_cons_succ, List.map_cons, List.map_nil, List.cons_append, List.nil_append, List.append_nil, List.replicate, List.take_zero, List.take_nil, List.take_succ_cons, ↓bsome, ↓msome, Option.bind_some, Option.map_some, Option.bind_none, Option.map_none, Nat.sub_self, Int.cast_ofNat_Int, Nat.reduceAdd, Nat.reduceMul, Nat.reduceSub, Nat.reduceLeDiff, Nat.reduceLT, Nat.zero_add, Nat.add_zero, and_self, and_true, true_and, if_true, if_false, ↓reduceIte, ite_true, Bool.true_eq_false, Bool.false_eq_true, beq_self_eq_true, Bool.and_self, Bool.not_true, Bool.not_false, decide_true, decide_false, gLen, gTyIs, gTyNot, tyOf, gNeg, gPlus, DL.gSub, gCmp, gInt, gAbs, gTuple, gMax, gMin, gGcd, LIM, gIx, s1, ra1, ra2]
  have c6 : (fSet 6 (fIf (fTru (fOp (gCmp fun i j => decide (j < i)) (fOp gIx (fVar 3) (fLit (.int 0))) (fLit (.int 0)))) (fTup (fConsA (fVar 4) (fConsA (fVar 3) fNilA))) (fTup (fConsA (fVar 4) (fConsA (fTup (fConsA (fLit (.int 0)) (fConsA (fLit (.int 0)) (fConsA (fLit (.int 0)) (fConsA (fLit (.int 0)) (fConsA (fLit (.int 1)) fNilA)))))) fNilA))))) ⟨[some (.cel 0), some (.dat (T4 a b c d)), some (.dat (T4 a' b' c' d')), some (.dat (T5 P0 P1 P2 P3 P4)), some (.dat (T5 Q0 Q1 Q2 Q3 Q4)), some (.dat (T5 W0 W1 W2 W3 W4)), none], [t3]⟩ = some (.nx ⟨[some (.cel 0), some (.dat (T4 a b c d)), some (.dat (T4 a' b' c' d')), some (.dat (T5 P0 P1 P2 P3 P4)), some (.dat (T5 Q0 Q1 Q2 Q3 Q4)), some (.dat (T5 W0 W1 W2 W3 W4)), some (.dat (.tuple [T5 Q0 Q1 Q2 Q3 Q4, T5 D0 D1 D2 D3 D4]))], [t3]⟩) := by
    exact f6
  have c7 : (fRet (fOp gEq (fBi gRepr (fConsA (fCall F_split (fConsA (fVar 5) (fConsA (fVar 2) fNilA))) fNilA)) (fBi gRepr (fConsA (fVar 6) fNilA)))) ⟨[some (.cel 0), some (.dat (T4 a b c d)), some (.dat (T4 a' b' c' d')), some (.dat (T5 P0 P1 P2 P3 P4)), some (.dat (T5 Q0 Q1 Q2 Q3 Q4)), some (.dat (T5 W0 W1 W2 W3 W4)), some (.dat (.tuple [T5 Q0 Q1 Q2 Q3 Q4, T5 D0 D1 D2 D3 D4]))], [t3]⟩ = some (.rt (.dat (.bool true)) [t3]) := by
    simp only [fZip, zipD, gSum, intsOf, List.foldl_cons, List.foldl_nil, mkF, fRet, fRetL, fRetN, fSkip, fSeq, fNever, fSet, fAsg, fNew, fIfS, fDrop, fPar, fPar3, fSetc, fSetc2, fVar, fLit, fOp, fUn, fTup, fTup.datsOf, fLst, fNilA, fConsA, fStarA, fCelA, fOfL, fTru, fAndT, fOrT, fNotT, fAndV, fOrV, fNotV, fIf, fBi, fCall, fCallL, fCallFr, fPerm, callF, celOf, celsOk, norm, aName, aNil, aCons, aTup, setD, fSl, fIt, fItL, fItT, fFor, forGo, fLc, lcGo, fYes, wipeD, fCix, fList, fSlL, fPart, fNoPart, fChain, List.length_cons, List.length_nil, List.getElem?_cons_zero, List.getElem?_cons_succ, List.getElem?_nil, List.set_cons_zero, List.set_cons_succ, List.map_cons, List.map_nil, List.cons_append, List.nil_append, List.append_nil, List.replicate, List.take_zero, List.take_nil, List.take_succ_cons, ↓bsome, ↓msome, Option.bind_some, Option.map_some, Option.bind_none, Option.map_none, Nat.sub_self, Int.cast_ofNat_Int, Nat.reduceAdd, Nat.reduceMul, Nat.reduceSub, Nat.reduceLeDiff, Nat.reduceLT, Nat.zero_add, Nat.add_zero, and_self, and_true, true_and, if_true, if_false, ↓reduceIte, ite_true, Bool.true_eq_false, Bool.false_eq_true, beq_self_eq_true, Bool.and_self, Bool.not_true, Bool.not_false, decide_true, decide_false, gLen, gTyIs, gTyNot, tyOf, gNeg, gPlus, DL.gSub, gCmp, gInt, gAbs, gTuple, gMax, gMin, gGcd, LIM, gIx, s2, rb1, rb3]
  exact fn_ok (np := 2) (nN := 7) (n0 := 1) ((seq_nx c0).trans ((seq_nx c1).trans ((seq_nx c2).trans ((seq_nx c3).trans ((seq_nx c4).trans ((seq_nx c5).trans ((seq_nx c6).trans (c7)))))))) ⟨rfl, rfl⟩ rfl
end PL


set_option Elab.async false
set_option linter.all false
set_option maxRecDepth 100000
set_option maxHeartbeats 400000
namespace K06
open PySem PySem.Spec L2 DL
open PyProof.Rows hiding St
open PL
/-! the text by places -/
def topS (i : Nat) : Stmt := PySem.Challenge.pw_platelights_k06_whole_lights_split_by_a.main.body.getD i (.Pass ⟨0, 0, 0, 0⟩)
abbrev s_is_whole : Stmt := topS 7
abbrev n_is_whole : List Str := ["value"]
abbrev n0_is_whole : Nat := 0
theorem sc_is_whole : FnScope n_is_whole ["value"] (defScope s_is_whole) := ⟨rfl, rfl, rfl, by decide +kernel, rfl, by decide +kernel, by decide +kernel⟩
abbrev s_is_row : Stmt := topS 8
abbrev n_is_row : List Str := ["value", "many", "part"]
abbrev n0_is_row : Nat := 0
theorem sc_is_row : FnScope n_is_row ["value", "many"] (defScope s_is_row) := ⟨rfl, rfl, rfl, by decide +kernel, rfl, by decide +kernel, by decide +kernel⟩
abbrev s_divisor_of : Stmt := topS 9
abbrev n_divisor_of : List Str := ["numbers", "divisor", "number"]
abbrev n0_divisor_of : Nat := 0
theorem sc_divisor_of : FnScope n_divisor_of ["numbers"] (defScope s_divisor_of) := ⟨rfl, rfl, rfl, by decide +kernel, rfl, by decide +kernel, by decide +kernel⟩
abbrev s_is_reduced_row : Stmt := topS 10
abbrev n_is_reduced_row : List Str := ["value", "many"]
abbrev n0_is_reduced_row : Nat := 0
theorem sc_is_reduced_row : FnScope n_is_reduced_row ["value", "many"] (defScope s_is_reduced_row) := ⟨rfl, rfl, rfl, by decide +kernel, rfl, by decide +kernel, by decide +kernel⟩
abbrev s_reduced : Stmt := topS 11
abbrev n_reduced : List Str := ["numbers", "divisor", "number"]
abbrev n0_reduced : Nat := 0
theorem sc_reduced : FnScope n_reduced ["numbers"] (defScope s_reduced) := ⟨rfl, rfl, rfl, by decide +kernel, rfl, by decide +kernel, by decide +kernel⟩
abbrev s_dot : Stmt := topS 12
abbrev n_dot : List Str := ["row", "other", "one", "two"]
abbrev n0_dot : Nat := 0
theorem sc_dot : FnScope n_dot ["row", "other"] (defScope s_dot) := ⟨rfl, rfl, rfl, by decide +kernel, rfl, by decide +kernel, by decide +kernel⟩
abbrev s_combined : Stmt := topS 13
abbrev n_combined : List Str := ["one", "row", "two", "other", "left", "right"]
abbrev n0_combined : Nat := 0
theorem sc_combined : FnScope n_combined ["one", "row", "two", "other"] (defScope s_combined) := ⟨rfl, rfl, rfl, by decide +kernel, rfl, by decide +kernel, by decide +kernel⟩
abbrev s_ratio : Stmt := topS 15
abbrev n_ratio : List Str := ["p", "q", "divisor"]
abbrev n0_ratio : Nat := 0
theorem sc_ratio : FnScope n_ratio ["p", "q"] (defScope s_ratio) := ⟨rfl, rfl, rfl, by decide +kernel, rfl, by decide +kernel, by decide +kernel⟩
abbrev s_is_fraction : Stmt := topS 17
abbrev n_is_fraction : List Str := ["value"]
abbrev n0_is_fraction : Nat := 0
theorem sc_is_fraction : FnScope n_is_fraction ["value"] (defScope s_is_fraction) := ⟨rfl, rfl, rfl, by decide +kernel, rfl, by decide +kernel, by decide +kernel⟩
abbrev s_check_positive_fraction : Stmt := topS 18
abbrev n_check_positive_fraction : List Str := ["value"]
abbrev n0_check_positive_fraction : Nat := 0
theorem sc_check_positive_fraction : FnScope n_check_positive_fraction ["value"] (defScope s_check_positive_fraction) := ⟨rfl, rfl, rfl, by decide +kernel, rfl, by decide +kernel, by decide +kernel⟩
abbrev s_crossed : Stmt := topS 21
abbrev n_crossed : List Str := ["row", "other"]
abbrev n0_crossed : Nat := 0
theorem sc_crossed : FnScope n_crossed ["row", "other"] (defScope s_crossed) := ⟨rfl, rfl, rfl, by decide +kernel, rfl, by decide +kernel, by decide +kernel⟩
abbrev s_in_cone : Stmt := topS 22
abbrev n_in_cone : List Str := ["row"]
abbrev n0_in_cone : Nat := 0
theorem sc_in_cone : FnScope n_in_cone ["row"] (defScope s_in_cone) := ⟨rfl, rfl, rfl, by decide +kernel, rfl, by decide +kernel, by decide +kernel⟩
abbrev s_is_light : Stmt := topS 23
abbrev n_is_light : List Str := ["value"]
abbrev n0_is_light : Nat := 0
theorem sc_is_light : FnScope n_is_light ["value"] (defScope s_is_light) := ⟨rfl, rfl, rfl, by decide +kernel, rfl, by decide +kernel, by decide +kernel⟩
abbrev s_is_kind : Stmt := topS 24
abbrev n_is_kind : List Str := ["value"]
abbrev n0_is_kind : Nat := 0
theorem sc_is_kind : FnScope n_is_kind ["value"] (defScope s_is_kind) := ⟨rfl, rfl, rfl, by decide +kernel, rfl, by decide +kernel, by decide +kernel⟩
abbrev s_check_light : Stmt := topS 25
abbrev n_check_light : List Str := ["value"]
abbrev n0_check_light : Nat := 0
theorem sc_check_light : FnScope n_check_light ["value"] (defScope s_check_light) := ⟨rfl, rfl, rfl, by decide +kernel, rfl, by decide +kernel, by decide +kernel⟩
abbrev s_check_kind : Stmt := topS 26
abbrev n_check_kind : List Str := ["value"]
abbrev n0_check_kind : Nat := 0
theorem sc_check_kind : FnScope n_check_kind ["value"] (defScope s_check_kind) := ⟨rfl, rfl, rfl, by decide +kernel, rfl, by decide +kernel, by decide +kernel⟩
abbrev s_added : Stmt := topS 27
abbrev n_added : List Str := ["light", "other", "numbers"]
abbrev n0_added : Nat := 0
theorem sc_added : FnScope n_added ["light", "other"] (defScope s_added) := ⟨rfl, rfl, rfl, by decide +kernel, rfl, by decide +kernel, by decide +kernel⟩
abbrev s_times : Stmt := topS 28
abbrev n_times : List Str := ["light", "part", "number"]
abbrev n0_times : Nat := 0
theorem sc_times : FnScope n_times ["light", "part"] (defScope s_times) := ⟨rfl, rfl, rfl, by decide +kernel, rfl, by decide +kernel, by decide +kernel⟩
abbrev s_kind_of : Stmt := topS 29
abbrev n_kind_of : List Str := ["light"]
abbrev n0_kind_of : Nat := 0
theorem sc_kind_of : FnScope n_kind_of ["light"] (defScope s_kind_of) := ⟨rfl, rfl, rfl, by decide +kernel, rfl, by decide +kernel, by decide +kernel⟩
abbrev s_pure_light : Stmt := topS 30
abbrev n_pure_light : List Str := ["kind"]
abbrev n0_pure_light : Nat := 0
theorem sc_pure_light : FnScope n_pure_light ["kind"] (defScope s_pure_light) := ⟨rfl, rfl, rfl, by decide +kernel, rfl, by decide +kernel, by decide +kernel⟩
abbrev s_product : Stmt := topS 31
abbrev n_product : List Str := ["light", "other"]
abbrev n0_product : Nat := 0
theorem sc_product : FnScope n_product ["light", "other"] (defScope s_product) := ⟨rfl, rfl, rfl, by decide +kernel, rfl, by decide +kernel, by decide +kernel⟩
abbrev s_split : Stmt := topS 32
abbrev n_split : List Str := ["light", "kind", "part", "rest", "below", "numbers", "along", "size", "shared", "number"]
abbrev n0_split : Nat := 0
theorem sc_split : FnScope n_split ["light", "kind"] (defScope s_split) := ⟨rfl, rfl, rfl, by decide +kernel, rfl, by decide +kernel, by decide +kernel⟩
abbrev s__law_tap : Stmt := topS 34
abbrev n__law_tap : List Str := ["_law_script", "_law_turn", "_law_stirred", "_law_cell", "_law_own"]
abbrev n0__law_tap : Nat := 0
theorem sc__law_tap : FnScope n__law_tap ["_law_script", "_law_turn"] (defScope s__law_tap) := ⟨rfl, rfl, rfl, by decide +kernel, rfl, by decide +kernel, by decide +kernel⟩
abbrev s__law_from : Stmt := topS 35
abbrev n__law_from : List Str := ["_law_tap_here", "_law_many", "_law_ground", "_law_figure"]
abbrev n0__law_from : Nat := 1
theorem sc__law_from : FnScope n__law_from ["_law_tap_here", "_law_many"] (defScope s__law_from) := ⟨rfl, rfl, rfl, by decide +kernel, rfl, by decide +kernel, by decide +kernel⟩
abbrev s__law_turns : Stmt := topS 36
abbrev n__law_turns : List Str := ["_law_script", "_law_most"]
abbrev n0__law_turns : Nat := 0
theorem sc__law_turns : FnScope n__law_turns ["_law_script", "_law_most"] (defScope s__law_turns) := ⟨rfl, rfl, rfl, by decide +kernel, rfl, by decide +kernel, by decide +kernel⟩
abbrev s__law_pick : Stmt := topS 37
abbrev n__law_pick : List Str := ["_law_tap_here", "_law_some"]
abbrev n0__law_pick : Nat := 1
theorem sc__law_pick : FnScope n__law_pick ["_law_tap_here", "_law_some"] (defScope s__law_pick) := ⟨rfl, rfl, rfl, by decide +kernel, rfl, by decide +kernel, by decide +kernel⟩
abbrev s__law_low : Stmt := topS 38
abbrev n__law_low : List Str := ["_law_tap_here", "_law_way"]
abbrev n0__law_low : Nat := 1
theorem sc__law_low : FnScope n__law_low ["_law_tap_here"] (defScope s__law_low) := ⟨rfl, rfl, rfl, by decide +kernel, rfl, by decide +kernel, by decide +kernel⟩
abbrev s__law_common : Stmt := topS 39
abbrev n__law_common : List Str := ["_law_numbers", "_law_found", "_law_number", "_law_step", "_law_one", "_law_two"]
abbrev n0__law_common : Nat := 0
theorem sc__law_common : FnScope n__law_common ["_law_numbers"] (defScope s__law_common) := ⟨rfl, rfl, rfl, by decide +kernel, rfl, by decide +kernel, by decide +kernel⟩
abbrev s__law_least : Stmt := topS 40
abbrev n__law_least : List Str := ["_law_numbers", "_law_by_here", "_law_number"]
abbrev n0__law_least : Nat := 0
theorem sc__law_least : FnScope n__law_least ["_law_numbers"] (defScope s__law_least) := ⟨rfl, rfl, rfl, by decide +kernel, rfl, by decide +kernel, by decide +kernel⟩
abbrev s__law_ratio : Stmt := topS 41
abbrev n__law_ratio : List Str := ["_law_p", "_law_q", "_law_one", "_law_two"]
abbrev n0__law_ratio : Nat := 0
theorem sc__law_ratio : FnScope n__law_ratio ["_law_p", "_law_q"] (defScope s__law_ratio) := ⟨rfl, rfl, rfl, by decide +kernel, rfl, by decide +kernel, by decide +kernel⟩
abbrev s__law_plus : Stmt := topS 42
abbrev n__law_plus : List Str := ["_law_one", "_law_two"]
abbrev n0__law_plus : Nat := 0
theorem sc__law_plus : FnScope n__law_plus ["_law_one", "_law_two"] (defScope s__law_plus) := ⟨rfl, rfl, rfl, by decide +kernel, rfl, by decide +kernel, by decide +kernel⟩
abbrev s__law_by : Stmt := topS 43
abbrev n__law_by : List Str := ["_law_one", "_law_two"]
abbrev n0__law_by : Nat := 0
theorem sc__law_by : FnScope n__law_by ["_law_one", "_law_two"] (defScope s__law_by) := ⟨rfl, rfl, rfl, by decide +kernel, rfl, by decide +kernel, by decide +kernel⟩
abbrev s__law_root : Stmt := topS 44
abbrev n__law_root : List Str := ["_law_number", "_law_step", "_law_low_here", "_law_high", "_law_middle"]
abbrev n0__law_root : Nat := 0
theorem sc__law_root : FnScope n__law_root ["_law_number"] (defScope s__law_root) := ⟨rfl, rfl, rfl, by decide +kernel, rfl, by decide +kernel, by decide +kernel⟩
abbrev s__law_are_whole : Stmt := topS 45
abbrev n__law_are_whole : List Str := ["_law_told", "_law_each"]
abbrev n0__law_are_whole : Nat := 0
theorem sc__law_are_whole : FnScope n__law_are_whole ["_law_told"] (defScope s__law_are_whole) := ⟨rfl, rfl, rfl, by decide +kernel, rfl, by decide +kernel, by decide +kernel⟩
abbrev s__law_is_row : Stmt := topS 46
abbrev n__law_is_row : List Str := ["_law_told", "_law_many"]
abbrev n0__law_is_row : Nat := 0
theorem sc__law_is_row : FnScope n__law_is_row ["_law_told", "_law_many"] (defScope s__law_is_row) := ⟨rfl, rfl, rfl, by decide +kernel, rfl, by decide +kernel, by decide +kernel⟩
abbrev s__law_cone : Stmt := topS 47
abbrev n__law_cone : List Str := ["_law_numbers", "_law_one", "_law_two", "_law_three", "_law_four"]
abbrev n0__law_cone : Nat := 0
theorem sc__law_cone : FnScope n__law_cone ["_law_numbers"] (defScope s__law_cone) := ⟨rfl, rfl, rfl, by decide +kernel, rfl, by decide +kernel, by decide +kernel⟩
abbrev s__law_is_shine : Stmt := topS 48
abbrev n__law_is_shine : List Str := ["_law_told"]
abbrev n0__law_is_shine : Nat := 0
theorem sc__law_is_shine : FnScope n__law_is_shine ["_law_told"] (defScope s__law_is_shine) := ⟨rfl, rfl, rfl, by decide +kernel, rfl, by decide +kernel, by decide +kernel⟩
abbrev s__law_dot : Stmt := topS 49
abbrev n__law_dot : List Str := ["_law_one", "_law_two", "_law_here", "_law_there"]
abbrev n0__law_dot : Nat := 0
theorem sc__law_dot : FnScope n__law_dot ["_law_one", "_law_two"] (defScope s__law_dot) := ⟨rfl, rfl, rfl, by decide +kernel, rfl, by decide +kernel, by decide +kernel⟩
abbrev s__law_hue : Stmt := topS 50
abbrev n__law_hue : List Str := ["_law_tap_here", "_law_way", "_law_size", "_law_w", "_law_x", "_law_y"]
abbrev n0__law_hue : Nat := 1
theorem sc__law_hue : FnScope n__law_hue ["_law_tap_here"] (defScope s__law_hue) := ⟨rfl, rfl, rfl, by decide +kernel, rfl, by decide +kernel, by decide +kernel⟩
abbrev s__law_shine : Stmt := topS 51
abbrev n__law_shine : List Str := ["_law_tap_here", "_law_row", "_law_total", "_law_least_here", "_law_bright", "_law_way", "_law_below", "_law_hue_here", "_law_many"]
abbrev n0__law_shine : Nat := 1
theorem sc__law_shine : FnScope n__law_shine ["_law_tap_here"] (defScope s__law_shine) := ⟨rfl, rfl, rfl, by decide +kernel, rfl, by decide +kernel, by decide +kernel⟩
abbrev s__law_level : Stmt := topS 52
abbrev n__law_level : List Str := ["_law_tap_here", "_law_below", "_law_way", "_law_top"]
abbrev n0__law_level : Nat := 1
theorem sc__law_level : FnScope n__law_level ["_law_tap_here"] (defScope s__law_level) := ⟨rfl, rfl, rfl, by decide +kernel, rfl, by decide +kernel, by decide +kernel⟩
abbrev s__law_is_multiple : Stmt := topS 53
abbrev n__law_is_multiple : List Str := ["_law_shine_here", "_law_hue_here"]
abbrev n0__law_is_multiple : Nat := 0
theorem sc__law_is_multiple : FnScope n__law_is_multiple ["_law_shine_here", "_law_hue_here"] (defScope s__law_is_multiple) := ⟨rfl, rfl, rfl, by decide +kernel, rfl, by decide +kernel, by decide +kernel⟩
abbrev s__law_split_right : Stmt := topS 54
abbrev n__law_split_right : List Str := ["_law_shine_here", "_law_hue_here", "_law_told", "_law_inner", "_law_level_here"]
abbrev n0__law_split_right : Nat := 0
theorem sc__law_split_right : FnScope n__law_split_right ["_law_shine_here", "_law_hue_here"] (defScope s__law_split_right) := ⟨rfl, rfl, rfl, by decide +kernel, rfl, by decide +kernel, by decide +kernel⟩
abbrev s__law_joined_right : Stmt := topS 55
abbrev n__law_joined_right : List Str := ["_law_tap_here", "_law_hue_here", "_law_other", "_law_one", "_law_two", "_law_whole", "_law_due"]
abbrev n0__law_joined_right : Nat := 1
theorem sc__law_joined_right : FnScope n__law_joined_right ["_law_tap_here", "_law_hue_here"] (defScope s__law_joined_right) := ⟨rfl, rfl, rfl, by decide +kernel, rfl, by decide +kernel, by decide +kernel⟩
abbrev s__law_right : Stmt := topS 56
abbrev n__law_right : List Str := ["_law_tap_here", "_law_own", "_law_hues", "_law_each", "_law_shine_here", "_law_hue_here", "_law_share", "_law_parts"]
abbrev n0__law_right : Nat := 1
theorem sc__law_right : FnScope n__law_right ["_law_tap_here"] (defScope s__law_right) := ⟨rfl, rfl, rfl, by decide +kernel, rfl, by decide +kernel, by decide +kernel⟩
abbrev s_law : Stmt := topS 57
abbrev n_law : List Str := ["_law_script", "_law_turn"]
abbrev n0_law : Nat := 0
theorem sc_law : FnScope n_law ["_law_script"] (defScope s_law) := ⟨rfl, rfl, rfl, by decide +kernel, rfl, by decide +kernel, by decide +kernel⟩
/-! what is asked of the top -/
structure Tx (K : PySem.W.Frag) (mg : Str → Option Value) : Prop where
  i_gcd : mg "gcd" = some (.builtin "math.gcd")
  b_abs : mg "abs" = none
  b_all : mg "all" = none
  b_bool : mg "bool" = none
  b_divmod : mg "divmod" = none
  b_int : mg "int" = none
  b_isinstance : mg "isinstance" = none
  b_len : mg "len" = none
  b_max : mg "max" = none
  b_min : mg "min" = none
  b_range : mg "range" = none
  b_repr : mg "repr" = none
  b_sum : mg "sum" = none
  b_tuple : mg "tuple" = none
  b_type : mg "type" = none
  b_zip : mg "zip" = none
  k__DARK : ∃ (v : V) (u : Value), mg "_DARK" = some u ∧ RelV v u ∧ ∀ H, Dp K H v c__DARK
variable {P : Program} {w : World} {K : PySem.W.Frag} {mg : Str → Option Value} {base : Heap}
theorem ok_is_whole {f : Addr} {fd : FuncData} (U : Fun K "is_whole" "is_whole" s_is_whole f fd) (T : Tx K mg)  : FnG P w K mg base 1 f fd ["value"] F_is_whole := by
  refine fng_of (n0 := 0) (k := 0) U sc_is_whole (fun cdv A outer s H E hg hr => ?_)
  exact (rss_one (rs_ret (re_tyIs (he := sn_name) (hnT := (by decide)) (hdT := (by decide)) rfl T.b_type rfl T.b_int (by decide +kernel) (v 0))))
theorem ok_is_row {f : Addr} {fd : FuncData} (U : Fun K "is_row" "is_row" s_is_row f fd) (T : Tx K mg) (C_is_whole : At P w K mg base 1 "is_whole" ["value"] F_is_whole) : FnG P w K mg base 2 f fd ["value", "many"] F_is_row := by
  refine fng_of (n0 := 0) (k := 1) U sc_is_row (fun cdv A outer s H E hg hr => ?_)
  exact (rss_one (rs_ret (re_and (re_tyIs (he := sn_name) (hnT := (by decide)) (hdT := (by decide)) rfl T.b_type rfl T.b_tuple (by decide +kernel) (v 0)) (re_and (re_eq (hu64 hr) (re_len (he := sn_name) rfl T.b_len (ra_cons (hs := sn_name) (v 0) ra_nil)) (v 1)) (re_one (re_all (he := sn_lc) rfl rfl T.b_all (ra_cons (hs := sn_lc) (re_ofL (rl_lc (own := [("part", 2)]) (hs := fun _ => rfl) rfl sc_is_row.nd (ri_seq (v 0)) (blkOk_by (N := n_is_row) (sc := defScope s_is_row) (by decide +kernel)) (fun _ _ _ _ _ => (rg_name (i := 2) sc_is_row.nd rfl (by first | exact Or.inl rfl | exact Or.inr rfl))) (fun _ _ _ _ _ => rts_nil) (fun _ _ _ _ _ => (re_call (hdb := (by decide)) (he := sn_name) (hpl := rfl) C_is_whole hg (hr.mono (by decide)) rfl (ra_cons (hs := sn_name) (v 2) ra_nil))) (by decide))) ra_nil)))))))
theorem ok_divisor_of {f : Addr} {fd : FuncData} (U : Fun K "divisor_of" "divisor_of" s_divisor_of f fd) (T : Tx K mg)  : FnG P w K mg base 1 f fd ["numbers"] F_divisor_of := by
  refine fng_of (n0 := 0) (k := 0) U sc_divisor_of (fun cdv A outer s H E hg hr => ?_)
  exact (rss_cons (rs_set (i := 1) (hs := rfl) (hf := (by first | exact Or.inl rfl | exact Or.inr rfl)) sc_divisor_of.nd rfl (by first | exact Or.inl rfl | exact Or.inr rfl) re_int)
  (rss_cons (rs_for (hs := fun _ => rfl) PassesOwn.never rfl (ri_seq (v 0)) (rg_name (i := 2) sc_divisor_of.nd rfl (by first | exact Or.inl rfl | exact Or.inr rfl)) (fun _ => (rss_one (rs_set (i := 1) (hs := rfl) (hf := (by first | exact Or.inl rfl | exact Or.inr rfl)) sc_divisor_of.nd rfl (by first | exact Or.inl rfl | exact Or.inr rfl) (re_gcd (hdb := (by decide)) (he := sn_name) (hpl := rfl) rfl T.i_gcd (ra_cons (hs := sn_name) (v 1) (ra_cons (hs := sn_name) (v 2) ra_nil)))))))
  (rss_one (rs_ret (v 1)))))
theorem ok_is_reduced_row {f : Addr} {fd : FuncData} (U : Fun K "is_reduced_row" "is_reduced_row" s_is_reduced_row f fd) (T : Tx K mg) (C_divisor_of : At P w K mg base 1 "divisor_of" ["numbers"] F_divisor_of) (C_is_row : At P w K mg base 2 "is_row" ["value", "many"] F_is_row) : FnG P w K mg base 3 f fd ["value", "many"] F_is_reduced_row := by
  refine fng_of (n0 := 0) (k := 2) U sc_is_reduced_row (fun cdv A outer s H E hg hr => ?_)
  exact (rss_one (rs_ret (re_and (re_call (hdb := (by decide)) (he := sn_name) (hpl := rfl) C_is_row hg (hr.mono (by decide)) rfl (ra_cons (hs := sn_name) (v 0) (ra_cons (hs := sn_name) (v 1) ra_nil))) (re_one (re_eq (hu64 hr) (re_call (hdb := (by decide)) (he := sn_name) (hpl := rfl) C_divisor_of hg (hr.mono (by decide)) rfl (ra_cons (hs := sn_name) (v 0) ra_nil)) re_int)))))
theorem ok_reduced {f : Addr} {fd : FuncData} (U : Fun K "reduced" "reduced" s_reduced f fd) (T : Tx K mg) (C_divisor_of : At P w K mg base 1 "divisor_of" ["numbers"] F_divisor_of) : FnG P w K mg base 2 f fd ["numbers"] F_reduced := by
  refine fng_of (n0 := 0) (k := 1) U sc_reduced (fun cdv A outer s H E hg hr => ?_)
  exact (rss_cons (rs_set (i := 1) (hs := rfl) (hf := (by first | exact Or.inl rfl | exact Or.inr rfl)) sc_reduced.nd rfl (by first | exact Or.inl rfl | exact Or.inr rfl) (re_max (he := sn_call) (hpl := rfl) rfl rfl T.b_max (ra_cons (hs := sn_call) (re_call (hdb := (by decide)) (he := sn_name) (hpl := rfl) C_divisor_of hg (hr.mono (by decide)) rfl (ra_cons (hs := sn_name) (v 0) ra_nil)) (ra_cons (hs := sn_const) re_int ra_nil))))
  (rss_one (rs_ret (re_tuple (he := sn_lc) rfl T.b_tuple (ra_cons (hs := sn_lc) (re_ofL (rl_lc (own := [("number", 2)]) (hs := fun _ => rfl) rfl sc_reduced.nd (ri_seq (v 0)) (blkOk_by (N := n_reduced) (sc := defScope s_reduced) (by decide +kernel)) (fun _ _ _ _ _ => (rg_name (i := 2) sc_reduced.nd rfl (by first | exact Or.inl rfl | exact Or.inr rfl))) (fun _ _ _ _ _ => rts_nil) (fun _ _ _ _ _ => (re_div (v 2) (v 1))) (by decide))) ra_nil)))))
theorem ok_dot {f : Addr} {fd : FuncData} (U : Fun K "dot" "dot" s_dot f fd) (T : Tx K mg)  : FnG P w K mg base 1 f fd ["row", "other"] F_dot := by
  refine fng_of (n0 := 0) (k := 0) U sc_dot (fun cdv A outer s H E hg hr => ?_)
  exact (rss_one (rs_ret (re_sum (he := sn_lc) rfl rfl T.b_sum (ra_cons (hs := sn_lc) (re_ofL (rl_lc (own := [("one", 2), ("two", 3)]) (hs := fun _ => rfl) rfl sc_dot.nd (ri_zip (hs := by first | rfl | with_reducible exact sn_name) (hpl := rfl) rfl T.b_zip (ra_cons (hs := sn_name) (v 0) (ra_cons (hs := sn_name) (v 1) ra_nil))) (blkOk_by (N := n_dot) (sc := defScope s_dot) (by decide +kernel)) (fun _ _ _ _ _ => (rg_tupK K rfl (hn := rfl) (hst := rfl) rfl (rgs_cons (hs := rfl) (rg_name (i := 2) sc_dot.nd rfl (by first | exact Or.inl rfl | exact Or.inr rfl)) (rgs_cons (hs := rfl) (rg_name (i := 3) sc_dot.nd rfl (by first | exact Or.inl rfl | exact Or.inr rfl)) rgs_nil)))) (fun _ _ _ _ _ => rts_nil) (fun _ _ _ _ _ => (re_mul (v 2) (v 3))) (by decide))) ra_nil))))
theorem ok_combined {f : Addr} {fd : FuncData} (U : Fun K "combined" "combined" s_combined f fd) (T : Tx K mg)  : FnG P w K mg base 1 f fd ["one", "row", "two", "other"] F_combined := by
  refine fng_of (n0 := 0) (k := 0) U sc_combined (fun cdv A outer s H E hg hr => ?_)
  exact (rss_one (rs_ret (re_tuple (he := sn_lc) rfl T.b_tuple (ra_cons (hs := sn_lc) (re_ofL (rl_lc (own := [("left", 4), ("right", 5)]) (hs := fun _ => rfl) rfl sc_combined.nd (ri_zip (hs := by first | rfl | with_reducible exact sn_name) (hpl := rfl) rfl T.b_zip (ra_cons (hs := sn_name) (v 1) (ra_cons (hs := sn_name) (v 3) ra_nil))) (blkOk_by (N := n_combined) (sc := defScope s_combined) (by decide +kernel)) (fun _ _ _ _ _ => (rg_tupK K rfl (hn := rfl) (hst := rfl) rfl (rgs_cons (hs := rfl) (rg_name (i := 4) sc_combined.nd rfl (by first | exact Or.inl rfl | exact Or.inr rfl)) (rgs_cons (hs := rfl) (rg_name (i := 5) sc_combined.nd rfl (by first | exact Or.inl rfl | exact Or.inr rfl)) rgs_nil)))) (fun _ _ _ _ _ => rts_nil) (fun _ _ _ _ _ => (re_plus (re_mul (v 0) (v 4)) (re_mul (v 2) (v 5)))) (by decide))) ra_nil))))
theorem ok_ratio {f : Addr} {fd : FuncData} (U : Fun K "ratio" "ratio" s_ratio f fd) (T : Tx K mg)  : FnG P w K mg base 1 f fd ["p", "q"] F_ratio := by
  refine fng_of (n0 := 0) (k := 0) U sc_ratio (fun cdv A outer s H E hg hr => ?_)
  exact (rss_cons (rs_set (i := 2) (hs := rfl) (hf := (by first | exact Or.inl rfl | exact Or.inr rfl)) sc_ratio.nd rfl (by first | exact Or.inl rfl | exact Or.inr rfl) (re_if (rt_gt (v 1) re_int) (re_gcd (hdb := (by decide)) (he := sn_name) (hpl := rfl) rfl T.i_gcd (ra_cons (hs := sn_name) (v 0) (ra_cons (hs := sn_name) (v 1) ra_nil))) (re_neg (re_gcd (hdb := (by decide)) (he := sn_name) (hpl := rfl) rfl T.i_gcd (ra_cons (hs := sn_name) (v 0) (ra_cons (hs := sn_name) (v 1) ra_nil))))))
  (rss_one (rs_ret (re_tup (ra_cons (hs := sn_bin) (re_div (v 0) (v 2)) (ra_cons (hs := sn_bin) (re_div (v 1) (v 2)) ra_nil))))))
theorem ok_is_fraction {f : Addr} {fd : FuncData} (U : Fun K "is_fraction" "is_fraction" s_is_fraction f fd) (T : Tx K mg) (C_is_reduced_row : At P w K mg base 3 "is_reduced_row" ["value", "many"] F_is_reduced_row) : FnG P w K mg base 4 f fd ["value"] F_is_fraction := by
  refine fng_of (n0 := 0) (k := 3) U sc_is_fraction (fun cdv A outer s H E hg hr => ?_)
  exact (rss_one (rs_ret (re_and (re_call (hdb := (by decide)) (he := sn_name) (hpl := rfl) C_is_reduced_row hg (hr.mono (by decide)) rfl (ra_cons (hs := sn_name) (v 0) (ra_cons (hs := sn_const) re_int ra_nil))) (re_one (re_gt (re_ix (hs := fun _ _ => rfl) (v 0) re_int) re_int)))))
theorem ok_check_positive_fraction {f : Addr} {fd : FuncData} (U : Fun K "check_positive_fraction" "check_positive_fraction" s_check_positive_fraction f fd) (T : Tx K mg) (C_is_fraction : At P w K mg base 4 "is_fraction" ["value"] F_is_fraction) : FnG P w K mg base 5 f fd ["value"] F_check_positive_fraction := by
  refine fng_of (n0 := 0) (k := 4) U sc_check_positive_fraction (fun cdv A outer s H E hg hr => ?_)
  exact (rss_one (rs_if (rt_w (rw_or (rt_not (rt_val (he := fun _ => rfl) (re_call (hdb := (by decide)) (he := sn_name) (hpl := rfl) C_is_fraction hg (hr.mono (by decide)) rfl (ra_cons (hs := sn_name) (v 0) ra_nil)))) (rw_or1 (rt_lt (re_ix (hs := fun _ _ => rfl) (v 0) re_int) re_int)))) (rss_one rs_never) rss_nil))
theorem ok_crossed {f : Addr} {fd : FuncData} (U : Fun K "crossed" "crossed" s_crossed f fd) (T : Tx K mg) (C_dot : At P w K mg base 1 "dot" ["row", "other"] F_dot) : FnG P w K mg base 2 f fd ["row", "other"] F_crossed := by
  refine fng_of (n0 := 0) (k := 1) U sc_crossed (fun cdv A outer s H E hg hr => ?_)
  exact (rss_one (rs_ret (re_sub (re_mul (re_ix (hs := fun _ _ => rfl) (v 0) re_int) (re_ix (hs := fun _ _ => rfl) (v 1) re_int)) (re_call (hdb := (by decide)) (he := sn_sub) (hpl := rfl) C_dot hg (hr.mono (by decide)) rfl (ra_cons (hs := sn_sub) (re_sl (v 0) (ro_some re_int) ro_none) (ra_cons (hs := sn_sub) (re_sl (v 1) (ro_some re_int) ro_none) ra_nil))))))
theorem ok_in_cone {f : Addr} {fd : FuncData} (U : Fun K "in_cone" "in_cone" s_in_cone f fd) (T : Tx K mg) (C_crossed : At P w K mg base 2 "crossed" ["row", "other"] F_crossed) : FnG P w K mg base 3 f fd ["row"] F_in_cone := by
  refine fng_of (n0 := 0) (k := 2) U sc_in_cone (fun cdv A outer s H E hg hr => ?_)
  exact (rss_one (rs_ret (re_and (re_ge (re_ix (hs := fun _ _ => rfl) (v 0) re_int) re_int) (re_one (re_ge (re_call (hdb := (by decide)) (he := sn_name) (hpl := rfl) C_crossed hg (hr.mono (by decide)) rfl (ra_cons (hs := sn_name) (v 0) (ra_cons (hs := sn_name) (v 0) ra_nil))) re_int)))))
theorem ok_is_light {f : Addr} {fd : FuncData} (U : Fun K "is_light" "is_light" s_is_light f fd) (T : Tx K mg) (C_in_cone : At P w K mg base 3 "in_cone" ["row"] F_in_cone) (C_is_reduced_row : At P w K mg base 3 "is_reduced_row" ["value", "many"] F_is_reduced_row) : FnG P w K mg base 4 f fd ["value"] F_is_light := by
  refine fng_of (n0 := 0) (k := 3) U sc_is_light (fun cdv A outer s H E hg hr => ?_)
  exact (rss_one (rs_ret (re_and (re_call (hdb := (by decide)) (he := sn_name) (hpl := rfl) C_is_reduced_row hg (hr.mono (by decide)) rfl (ra_cons (hs := sn_name) (v 0) (ra_cons (hs := sn_const) re_int ra_nil))) (re_and (re_gt (re_ix (hs := fun _ _ => rfl) (v 0) re_int) re_int) (re_one (re_call (hdb := (by decide)) (he := sn_sub) (hpl := rfl) C_in_cone hg (hr.mono (by decide)) rfl (ra_cons (hs := sn_sub) (re_sl (v 0) ro_none (ro_some re_int)) ra_nil)))))))
theorem ok_is_kind {f : Addr} {fd : FuncData} (U : Fun K "is_kind" "is_kind" s_is_kind f fd) (T : Tx K mg) (C_dot : At P w K mg base 1 "dot" ["row", "other"] F_dot) (C_is_reduced_row : At P w K mg base 3 "is_reduced_row" ["value", "many"] F_is_reduced_row) : FnG P w K mg base 4 f fd ["value"] F_is_kind := by
  refine fng_of (n0 := 0) (k := 3) U sc_is_kind (fun cdv A outer s H E hg hr => ?_)
  exact (rss_one (rs_ret (re_and (re_call (hdb := (by decide)) (he := sn_name) (hpl := rfl) C_is_reduced_row hg (hr.mono (by decide)) rfl (ra_cons (hs := sn_name) (v 0) (ra_cons (hs := sn_const) re_int ra_nil))) (re_and (re_gt (re_ix (hs := fun _ _ => rfl) (v 0) re_int) re_int) (re_one (re_eq (hu64 hr) (re_call (hdb := (by decide)) (he := sn_sub) (hpl := rfl) C_dot hg (hr.mono (by decide)) rfl (ra_cons (hs := sn_sub) (re_sl (v 0) ro_none (ro_some re_int)) (ra_cons (hs := sn_sub) (re_sl (v 0) ro_none (ro_some re_int)) ra_nil))) (re_mul (re_ix (hs := fun _ _ => rfl) (v 0) re_int) (re_ix (hs := fun _ _ => rfl) (v 0) re_int))))))))
theorem ok_check_light {f : Addr} {fd : FuncData} (U : Fun K "check_light" "check_light" s_check_light f fd) (T : Tx K mg) (C_is_light : At P w K mg base 4 "is_light" ["value"] F_is_light) : FnG P w K mg base 5 f fd ["value"] F_check_light := by
  refine fng_of (n0 := 0) (k := 4) U sc_check_light (fun cdv A outer s H E hg hr => ?_)
  exact (rss_one (rs_if (rt_not (rt_val (he := fun _ => rfl) (re_call (hdb := (by decide)) (he := sn_name) (hpl := rfl) C_is_light hg (hr.mono (by decide)) rfl (ra_cons (hs := sn_name) (v 0) ra_nil)))) (rss_one rs_never) rss_nil))
theorem ok_check_kind {f : Addr} {fd : FuncData} (U : Fun K "check_kind" "check_kind" s_check_kind f fd) (T : Tx K mg) (C_is_kind : At P w K mg base 4 "is_kind" ["value"] F_is_kind) : FnG P w K mg base 5 f fd ["value"] F_check_kind := by
  refine fng_of (n0 := 0) (k := 4) U sc_check_kind (fun cdv A outer s H E hg hr => ?_)
  exact (rss_one (rs_if (rt_not (rt_val (he := fun _ => rfl) (re_call (hdb := (by decide)) (he := sn_name) (hpl := rfl) C_is_kind hg (hr.mono (by decide)) rfl (ra_cons (hs := sn_name) (v 0) ra_nil)))) (rss_one rs_never) rss_nil))
theorem ok_added {f : Addr} {fd : FuncData} (U : Fun K "added" "added" s_added f fd) (T : Tx K mg) (C_check_light : At P w K mg base 5 "check_light" ["value"] F_check_light) (C_combined : At P w K mg base 1 "combined" ["one", "row", "two", "other"] F_combined) (C_reduced : At P w K mg base 2 "reduced" ["numbers"] F_reduced) : FnG P w K mg base 6 f fd ["light", "other"] F_added := by
  refine fng_of (n0 := 0) (k := 5) U sc_added (fun cdv A outer s H E hg hr => ?_)
  exact (rss_cons (rs_drop (hs := rfl) (re_call (hdb := (by decide)) (he := sn_name) (hpl := rfl) C_check_light hg (hr.mono (by decide)) rfl (ra_cons (hs := sn_name) (v 0) ra_nil)))
  (rss_cons (rs_drop (hs := rfl) (re_call (hdb := (by decide)) (he := sn_name) (hpl := rfl) C_check_light hg (hr.mono (by decide)) rfl (ra_cons (hs := sn_name) (v 1) ra_nil)))
  (rss_cons (rs_set (i := 2) (hs := rfl) (hf := (by first | exact Or.inl rfl | exact Or.inr rfl)) sc_added.nd rfl (by first | exact Or.inl rfl | exact Or.inr rfl) (re_call (hdb := (by decide)) (he := sn_sub) (hpl := rfl) C_combined hg (hr.mono (by decide)) rfl (ra_cons (hs := sn_sub) (re_ix (hs := fun _ _ => rfl) (v 1) re_int) (ra_cons (hs := sn_sub) (re_sl (v 0) ro_none (ro_some re_int)) (ra_cons (hs := sn_sub) (re_ix (hs := fun _ _ => rfl) (v 0) re_int) (ra_cons (hs := sn_sub) (re_sl (v 1) ro_none (ro_some re_int)) ra_nil))))))
  (rss_one (rs_ret (re_call (hdb := (by decide)) (he := sn_tup) (hpl := rfl) C_reduced hg (hr.mono (by decide)) rfl (ra_cons (hs := sn_tup) (re_tup (ra_star (hs := by rfl) (v 2) (ra_cons (hs := sn_bin) (re_mul (re_ix (hs := fun _ _ => rfl) (v 0) re_int) (re_ix (hs := fun _ _ => rfl) (v 1) re_int)) ra_nil))) ra_nil)))))))
theorem ok_times {f : Addr} {fd : FuncData} (U : Fun K "times" "times" s_times f fd) (T : Tx K mg) (C_check_light : At P w K mg base 5 "check_light" ["value"] F_check_light) (C_check_positive_fraction : At P w K mg base 5 "check_positive_fraction" ["value"] F_check_positive_fraction) (C_reduced : At P w K mg base 2 "reduced" ["numbers"] F_reduced) : FnG P w K mg base 6 f fd ["light", "part"] F_times := by
  refine fng_of (n0 := 0) (k := 5) U sc_times (fun cdv A outer s H E hg hr => ?_)
  exact (rss_cons (rs_drop (hs := rfl) (re_call (hdb := (by decide)) (he := sn_name) (hpl := rfl) C_check_light hg (hr.mono (by decide)) rfl (ra_cons (hs := sn_name) (v 0) ra_nil)))
  (rss_cons (rs_drop (hs := rfl) (re_call (hdb := (by decide)) (he := sn_name) (hpl := rfl) C_check_positive_fraction hg (hr.mono (by decide)) rfl (ra_cons (hs := sn_name) (v 1) ra_nil)))
  (rss_one (rs_ret (re_call (hdb := (by decide)) (he := sn_tup) (hpl := rfl) C_reduced hg (hr.mono (by decide)) rfl (ra_cons (hs := sn_tup) (re_tup (ra_star (hs := by rfl) (re_ofL (rl_lc (own := [("number", 2)]) (hs := fun _ => rfl) rfl sc_times.nd (ri_seq (re_sl (v 0) ro_none (ro_some re_int))) (blkOk_by (N := n_times) (sc := defScope s_times) (by decide +kernel)) (fun _ _ _ _ _ => (rg_name (i := 2) sc_times.nd rfl (by first | exact Or.inl rfl | exact Or.inr rfl))) (fun _ _ _ _ _ => rts_nil) (fun _ _ _ _ _ => (re_mul (re_ix (hs := fun _ _ => rfl) (v 1) re_int) (v 2))) (by decide))) (ra_cons (hs := sn_bin) (re_mul (re_ix (hs := fun _ _ => rfl) (v 1) re_int) (re_ix (hs := fun _ _ => rfl) (v 0) re_int)) ra_nil))) ra_nil))))))
theorem ok_kind_of {f : Addr} {fd : FuncData} (U : Fun K "kind_of" "kind_of" s_kind_of f fd) (T : Tx K mg) (C_check_light : At P w K mg base 5 "check_light" ["value"] F_check_light) (C_crossed : At P w K mg base 2 "crossed" ["row", "other"] F_crossed) (C_reduced : At P w K mg base 2 "reduced" ["numbers"] F_reduced) : FnG P w K mg base 6 f fd ["light"] F_kind_of := by
  obtain ⟨v__DARK, u__DARK, m__DARK, r__DARK, d__DARK⟩ := T.k__DARK
  refine fng_of (n0 := 0) (k := 5) U sc_kind_of (fun cdv A outer s H E hg hr => ?_)
  exact (rss_cons (rs_drop (hs := rfl) (re_call (hdb := (by decide)) (he := sn_name) (hpl := rfl) C_check_light hg (hr.mono (by decide)) rfl (ra_cons (hs := sn_name) (v 0) ra_nil)))
  (rss_cons (rs_if (rt_w (rw_or (rt_eq (hu64 hr) (v 0) (re_glob (v := v__DARK) rfl m__DARK r__DARK d__DARK)) (rw_or1 (rt_gt (re_call (hdb := (by decide)) (he := sn_sub) (hpl := rfl) C_crossed hg (hr.mono (by decide)) rfl (ra_cons (hs := sn_sub) (re_sl (v 0) ro_none (ro_some re_int)) (ra_cons (hs := sn_sub) (re_sl (v 0) ro_none (ro_some re_int)) ra_nil))) re_int)))) (rss_one (rs_ret re_non)) rss_nil)
  (rss_one (rs_ret (re_call (hdb := (by decide)) (he := sn_tup) (hpl := rfl) C_reduced hg (hr.mono (by decide)) rfl (ra_cons (hs := sn_tup) (re_tup (ra_star (hs := by rfl) (re_sl (v 0) (ro_some re_int) (ro_some re_int)) (ra_cons (hs := sn_sub) (re_ix (hs := fun _ _ => rfl) (v 0) re_int) ra_nil))) ra_nil))))))
theorem ok_pure_light {f : Addr} {fd : FuncData} (U : Fun K "pure_light" "pure_light" s_pure_light f fd) (T : Tx K mg) (C_check_kind : At P w K mg base 5 "check_kind" ["value"] F_check_kind) : FnG P w K mg base 6 f fd ["kind"] F_pure_light := by
  refine fng_of (n0 := 0) (k := 5) U sc_pure_light (fun cdv A outer s H E hg hr => ?_)
  exact (rss_cons (rs_drop (hs := rfl) (re_call (hdb := (by decide)) (he := sn_name) (hpl := rfl) C_check_kind hg (hr.mono (by decide)) rfl (ra_cons (hs := sn_name) (v 0) ra_nil)))
  (rss_one (rs_ret (re_tup (ra_cons (hs := sn_sub) (re_ix (hs := fun _ _ => rfl) (v 0) re_int) (ra_cons (hs := sn_sub) (re_ix (hs := fun _ _ => rfl) (v 0) re_int) (ra_cons (hs := sn_sub) (re_ix (hs := fun _ _ => rfl) (v 0) re_int) (ra_cons (hs := sn_sub) (re_ix (hs := fun _ _ => rfl) (v 0) re_int) (ra_cons (hs := sn_sub) (re_ix (hs := fun _ _ => rfl) (v 0) re_int) ra_nil)))))))))
theorem ok_product {f : Addr} {fd : FuncData} (U : Fun K "product" "product" s_product f fd) (T : Tx K mg) (C_check_light : At P w K mg base 5 "check_light" ["value"] F_check_light) (C_crossed : At P w K mg base 2 "crossed" ["row", "other"] F_crossed) (C_ratio : At P w K mg base 1 "ratio" ["p", "q"] F_ratio) : FnG P w K mg base 6 f fd ["light", "other"] F_product := by
  refine fng_of (n0 := 0) (k := 5) U sc_product (fun cdv A outer s H E hg hr => ?_)
  exact (rss_cons (rs_drop (hs := rfl) (re_call (hdb := (by decide)) (he := sn_name) (hpl := rfl) C_check_light hg (hr.mono (by decide)) rfl (ra_cons (hs := sn_name) (v 0) ra_nil)))
  (rss_cons (rs_drop (hs := rfl) (re_call (hdb := (by decide)) (he := sn_name) (hpl := rfl) C_check_light hg (hr.mono (by decide)) rfl (ra_cons (hs := sn_name) (v 1) ra_nil)))
  (rss_one (rs_ret (re_call (hdb := (by decide)) (he := sn_call) (hpl := rfl) C_ratio hg (hr.mono (by decide)) rfl (ra_cons (hs := sn_call) (re_call (hdb := (by decide)) (he := sn_sub) (hpl := rfl) C_crossed hg (hr.mono (by decide)) rfl (ra_cons (hs := sn_sub) (re_sl (v 0) ro_none (ro_some re_int)) (ra_cons (hs := sn_sub) (re_sl (v 1) ro_none (ro_some re_int)) ra_nil))) (ra_cons (hs := sn_bin) (re_mul (re_ix (hs := fun _ _ => rfl) (v 0) re_int) (re_ix (hs := fun _ _ => rfl) (v 1) re_int)) ra_nil)))))))
theorem ok_split {f : Addr} {fd : FuncData} (U : Fun K "split" "split" s_split f fd) (T : Tx K mg) (C_check_kind : At P w K mg base 5 "check_kind" ["value"] F_check_kind) (C_check_light : At P w K mg base 5 "check_light" ["value"] F_check_light) (C_combined : At P w K mg base 1 "combined" ["one", "row", "two", "other"] F_combined) (C_crossed : At P w K mg base 2 "crossed" ["row", "other"] F_crossed) (C_reduced : At P w K mg base 2 "reduced" ["numbers"] F_reduced) : FnG P w K mg base 6 f fd ["light", "kind"] F_split := by
  obtain ⟨v__DARK, u__DARK, m__DARK, r__DARK, d__DARK⟩ := T.k__DARK
  refine fng_of (n0 := 0) (k := 5) U sc_split (fun cdv A outer s H E hg hr => ?_)
  exact (rss_cons (rs_drop (hs := rfl) (re_call (hdb := (by decide)) (he := sn_name) (hpl := rfl) C_check_light hg (hr.mono (by decide)) rfl (ra_cons (hs := sn_name) (v 0) ra_nil)))
  (rss_cons (rs_drop (hs := rfl) (re_call (hdb := (by decide)) (he := sn_name) (hpl := rfl) C_check_kind hg (hr.mono (by decide)) rfl (ra_cons (hs := sn_name) (v 1) ra_nil)))
  (rss_cons (rs_par (i := 5) (j := 6) rfl sc_split.nd rfl rfl (by decide) rfl rfl (ra_cons (hs := sn_sub) (re_sl (v 0) ro_none (ro_some re_int)) (ra_cons (hs := sn_tup) (re_tup (ra_cons (hs := sn_sub) (re_ix (hs := fun _ _ => rfl) (v 1) re_int) (ra_cons (hs := sn_sub) (re_ix (hs := fun _ _ => rfl) (v 1) re_int) (ra_cons (hs := sn_sub) (re_ix (hs := fun _ _ => rfl) (v 1) re_int) (ra_cons (hs := sn_sub) (re_ix (hs := fun _ _ => rfl) (v 1) re_int) ra_nil))))) ra_nil)) (P := ps_par (by rfl) sc_split.nd rfl rfl (by decide) rfl rfl (pwA _) (by rfl)))
  (rss_cons (rs_asg (hs := rfl) (hw := rfl) (h1 := rfl) (re_tup (ra_cons (hs := sn_call) (re_call (hdb := (by decide)) (he := sn_name) (hpl := rfl) C_crossed hg (hr.mono (by decide)) rfl (ra_cons (hs := sn_name) (v 5) (ra_cons (hs := sn_name) (v 5) ra_nil))) (ra_cons (hs := sn_call) (re_call (hdb := (by decide)) (he := sn_name) (hpl := rfl) C_crossed hg (hr.mono (by decide)) rfl (ra_cons (hs := sn_name) (v 5) (ra_cons (hs := sn_name) (v 6) ra_nil))) ra_nil))) (rg_tupK K rfl (hn := rfl) (hst := rfl) rfl (rgs_cons (hs := rfl) (rg_name (i := 7) sc_split.nd rfl (by first | exact Or.inl rfl | exact Or.inr rfl)) (rgs_cons (hs := rfl) (rg_name (i := 8) sc_split.nd rfl (by first | exact Or.inl rfl | exact Or.inr rfl)) rgs_nil))))
  (rss_cons (rs_if (rt_eq (hu64 hr) (v 8) re_int) (rss_one (rs_ret (re_tup (ra_cons (hs := sn_name) (v 0) (ra_cons (hs := sn_name) (re_glob (v := v__DARK) rfl m__DARK r__DARK d__DARK) ra_nil))))) rss_nil)
  (rss_cons (rs_setLc (i := 2) (own := [("number", 9)]) (hs := fun _ => rfl) rfl sc_split.nd rfl rfl (sw_true rfl rfl rfl (by decide +kernel)) (ri_seq (v 6)) (blkOk_by (N := n_split) (sc := defScope s_split) (by decide +kernel)) (fun _ _ _ _ _ => (rg_name (i := 9) sc_split.nd rfl (by first | exact Or.inl rfl | exact Or.inr rfl))) (fun _ _ _ _ _ => rts_nil) (fun _ _ _ _ _ => (re_mul (v 7) (v 9))) (by decide))
  (rss_cons (rs_set (i := 3) (hs := rfl) (hf := (by first | exact Or.inl rfl | exact Or.inr rfl)) sc_split.nd rfl (by first | exact Or.inl rfl | exact Or.inr rfl) (re_call (hdb := (by decide)) (he := sn_bin) (hpl := rfl) C_combined hg (hr.mono (by decide)) rfl (ra_cons (hs := sn_bin) (re_mul re_int (v 8)) (ra_cons (hs := sn_name) (v 5) (ra_cons (hs := sn_un) (re_neg re_int) (ra_cons (hs := sn_name) (v 2) ra_nil))))))
  (rss_cons (rs_set (i := 4) (hs := rfl) (hf := (by first | exact Or.inl rfl | exact Or.inr rfl)) sc_split.nd rfl (by first | exact Or.inl rfl | exact Or.inr rfl) (re_mul (re_mul re_int (v 8)) (re_ix (hs := fun _ _ => rfl) (v 0) re_int)))
  (rss_one (rs_ret (re_tup (ra_cons (hs := sn_call) (re_call (hdb := (by decide)) (he := sn_tup) (hpl := rfl) C_reduced hg (hr.mono (by decide)) rfl (ra_cons (hs := sn_tup) (re_tup (ra_star (hs := by rfl) (v 2) (ra_cons (hs := sn_name) (v 4) ra_nil))) ra_nil)) (ra_cons (hs := sn_call) (re_call (hdb := (by decide)) (he := sn_tup) (hpl := rfl) C_reduced hg (hr.mono (by decide)) rfl (ra_cons (hs := sn_tup) (re_tup (ra_star (hs := by rfl) (v 3) (ra_cons (hs := sn_name) (v 4) ra_nil))) ra_nil)) ra_nil)))))))))))))
theorem ok__law_tap {f : Addr} {fd : FuncData} (U : Fun K "_law_tap" "_law_tap" s__law_tap f fd) (T : Tx K mg)  : FnG P w K mg base 1 f fd ["_law_script", "_law_turn"] F__law_tap := by
  refine fng_of (n0 := 0) (k := 0) U sc__law_tap (fun cdv A outer s H E hg hr => ?_)
  exact (rss_cons (rs_set (i := 2) (hs := rfl) (hf := (by first | exact Or.inl rfl | exact Or.inr rfl)) sc__law_tap.nd rfl (by first | exact Or.inl rfl | exact Or.inr rfl) (re_plus re_int (re_mul re_int (v 1))))
  (rss_cons (rs_for (hs := fun _ => rfl) PassesOwn.never rfl (ri_seq (re_sl (v 0) ro_none (ro_some re_int))) (rg_name (i := 3) sc__law_tap.nd rfl (by first | exact Or.inl rfl | exact Or.inr rfl)) (fun _ => (rss_one (rs_set (i := 2) (hs := rfl) (hf := (by first | exact Or.inl rfl | exact Or.inr rfl)) sc__law_tap.nd rfl (by first | exact Or.inl rfl | exact Or.inr rfl) (re_mod (re_intc (he := sn_bin) rfl T.b_int (ra_cons (hs := sn_bin) (re_plus (re_plus (re_mul (v 2) re_int) (re_mod (re_intc (he := sn_name) rfl T.b_int (ra_cons (hs := sn_name) (v 3) ra_nil)) re_int)) re_int) ra_nil)) re_int)))))
  (rss_cons (rs_set (i := 4) (hs := rfl) (hf := (by first | exact Or.inl rfl | exact Or.inr rfl)) sc__law_tap.nd rfl (by first | exact Or.inl rfl | exact Or.inr rfl) (re_if (rt_lt (v 1) (re_len (he := sn_name) rfl T.b_len (ra_cons (hs := sn_name) (v 0) ra_nil))) (re_intc (he := sn_sub) rfl T.b_int (ra_cons (hs := sn_sub) (re_ix (hs := fun _ _ => rfl) (v 0) (v 1)) ra_nil)) re_int))
  (rss_one (rs_retL (rl_lst (ra_cons (hs := sn_if) (re_if (rt_ge (re_abs (he := sn_name) rfl T.b_abs (ra_cons (hs := sn_name) (v 4) ra_nil)) (re_pow re_int re_int)) (re_abs (he := sn_name) rfl T.b_abs (ra_cons (hs := sn_name) (v 4) ra_nil)) re_int) (ra_cons (hs := sn_bin) (re_mod (re_intc (he := sn_bin) rfl T.b_int (ra_cons (hs := sn_bin) (re_plus (v 2) (re_mul re_int (re_mod (re_intc (he := sn_name) rfl T.b_int (ra_cons (hs := sn_name) (v 4) ra_nil)) re_int))) ra_nil)) re_int) (ra_cons (hs := sn_const) re_int ra_nil)))))))))
theorem ok__law_from {f : Addr} {fd : FuncData} (U : Fun K "_law_from" "_law_from" s__law_from f fd) (T : Tx K mg)  : FnG P w K mg base 1 f fd ["_law_tap_here", "_law_many"] F__law_from := by
  refine fng_of (n0 := 1) (k := 0) U sc__law_from (fun cdv A outer s H E hg hr => ?_)
  exact (rss_cons (rs_if (rt_gt (re_cix (i := 0) (hd := (by decide)) (hcd := (by decide)) (hs := fun _ _ => rfl) rfl (by first | exact Or.inl rfl | exact Or.inr (Or.inl rfl) | exact Or.inr (Or.inr rfl)) re_int) re_int) (rss_cons (rs_setc2 (i := 0) (j := 3) (hd := (by decide)) (hcd := (by decide)) (ha := fun _ => rfl) (hf := (by first | exact Or.inl rfl | exact Or.inr rfl)) rfl sc__law_from.nd rfl (by first | exact Or.inl rfl | exact Or.inr (Or.inl rfl) | exact Or.inr (Or.inr rfl)) rfl (by first | exact Or.inl rfl | exact Or.inr rfl) (by decide) re_int (re_divmod (he := sn_sub) (hpl := rfl) rfl T.b_divmod (ra_cons (hs := sn_sub) (re_cix (i := 0) (hd := (by decide)) (hcd := (by decide)) (hs := fun _ _ => rfl) rfl (by first | exact Or.inl rfl | exact Or.inr (Or.inl rfl) | exact Or.inr (Or.inr rfl)) re_int) (ra_cons (hs := sn_name) (v 1) ra_nil))) (P := fun t ht => ps_asg ht (pg_tup rfl (pgs_cons (pg_sub (pe_var (i := 0) rfl (by first | exact Or.inl rfl | exact Or.inr (Or.inl rfl) | exact Or.inr (Or.inr rfl))) (pwE _) set_list) (pgs_cons (pg_name (i := 3) sc__law_from.nd rfl (by first | exact Or.inl rfl | exact Or.inr rfl)) pgs_nil)))))
  (rss_one (rs_ret (v 3)))) rss_nil)
  (rss_cons (rs_setc (i := 0) (hd := (by decide)) (hcd := (by decide)) (ha := fun _ => rfl) (hs := rfl) (hw := rfl) (h1 := rfl) rfl (by first | exact Or.inl rfl | exact Or.inr (Or.inl rfl) | exact Or.inr (Or.inr rfl)) re_int (re_plus (re_cix (i := 0) (hd := (by decide)) (hcd := (by decide)) (hs := fun _ _ => rfl) rfl (by first | exact Or.inl rfl | exact Or.inr (Or.inl rfl) | exact Or.inr (Or.inr rfl)) re_int) re_int))
  (rss_cons (rs_set (i := 2) (hs := rfl) (hf := (by first | exact Or.inl rfl | exact Or.inr rfl)) sc__law_from.nd rfl (by first | exact Or.inl rfl | exact Or.inr rfl) (re_mod (re_intc (he := sn_bin) rfl T.b_int (ra_cons (hs := sn_bin) (re_plus (re_plus (re_cix (i := 0) (hd := (by decide)) (hcd := (by decide)) (hs := fun _ _ => rfl) rfl (by first | exact Or.inl rfl | exact Or.inr (Or.inl rfl) | exact Or.inr (Or.inr rfl)) re_int) (re_mul re_int (re_cix (i := 0) (hd := (by decide)) (hcd := (by decide)) (hs := fun _ _ => rfl) rfl (by first | exact Or.inl rfl | exact Or.inr (Or.inl rfl) | exact Or.inr (Or.inr rfl)) re_int))) re_int) ra_nil)) re_int))
  (rss_cons (rs_setc (i := 0) (hd := (by decide)) (hcd := (by decide)) (ha := fun _ => rfl) (hs := rfl) (hw := rfl) (h1 := rfl) rfl (by first | exact Or.inl rfl | exact Or.inr (Or.inl rfl) | exact Or.inr (Or.inr rfl)) re_int (re_mod (re_intc (he := sn_bin) rfl T.b_int (ra_cons (hs := sn_bin) (re_plus (re_mul (v 2) (re_plus (re_mod (re_intc (he := sn_name) rfl T.b_int (ra_cons (hs := sn_name) (v 2) ra_nil)) re_int) re_int)) (re_mul re_int (re_cix (i := 0) (hd := (by decide)) (hcd := (by decide)) (hs := fun _ _ => rfl) rfl (by first | exact Or.inl rfl | exact Or.inr (Or.inl rfl) | exact Or.inr (Or.inr rfl)) re_int))) ra_nil)) re_int))
  (rss_one (rs_ret (re_mod (re_intc (he := sn_bin) rfl T.b_int (ra_cons (hs := sn_bin) (re_div (re_cix (i := 0) (hd := (by decide)) (hcd := (by decide)) (hs := fun _ _ => rfl) rfl (by first | exact Or.inl rfl | exact Or.inr (Or.inl rfl) | exact Or.inr (Or.inr rfl)) re_int) re_int) ra_nil)) (v 1))))))))
theorem ok__law_turns {f : Addr} {fd : FuncData} (U : Fun K "_law_turns" "_law_turns" s__law_turns f fd) (T : Tx K mg)  : FnG P w K mg base 1 f fd ["_law_script", "_law_most"] F__law_turns := by
  refine fng_of (n0 := 0) (k := 0) U sc__law_turns (fun cdv A outer s H E hg hr => ?_)
  exact (rss_one (rs_ret (re_max (he := sn_const) (hpl := rfl) rfl rfl T.b_max (ra_cons (hs := sn_const) re_int (ra_cons (hs := sn_call) (re_min (he := sn_call) (hpl := rfl) rfl rfl T.b_min (ra_cons (hs := sn_call) (re_len (he := sn_name) rfl T.b_len (ra_cons (hs := sn_name) (v 0) ra_nil)) (ra_cons (hs := sn_name) (v 1) ra_nil))) ra_nil)))))
theorem ok__law_pick {f : Addr} {fd : FuncData} (U : Fun K "_law_pick" "_law_pick" s__law_pick f fd) (T : Tx K mg) (C__law_from : At P w K mg base 1 "_law_from" ["_law_tap_here", "_law_many"] F__law_from) : FnG P w K mg base 2 f fd ["_law_tap_here", "_law_some"] F__law_pick := by
  refine fng_of (n0 := 1) (k := 1) U sc__law_pick (fun cdv A outer s H E hg hr => ?_)
  exact (rss_one (rs_ret (re_ix (hs := fun _ _ => rfl) (v 1) (re_call (hdb := (by decide)) (he := sn_name) (hpl := rfl) C__law_from hg (hr.mono (by decide)) rfl (ra_cel (i := 0) (hd := (by decide)) (hcd := (by decide)) (hs := sn_name) rfl (by first | exact Or.inl rfl | exact Or.inr (Or.inl rfl) | exact Or.inr (Or.inr rfl)) (ra_cons (hs := sn_call) (re_len (he := sn_name) rfl T.b_len (ra_cons (hs := sn_name) (v 1) ra_nil)) ra_nil))))))
theorem ok__law_low {f : Addr} {fd : FuncData} (U : Fun K "_law_low" "_law_low" s__law_low f fd) (T : Tx K mg) (C__law_from : At P w K mg base 1 "_law_from" ["_law_tap_here", "_law_many"] F__law_from) : FnG P w K mg base 2 f fd ["_law_tap_here"] F__law_low := by
  refine fng_of (n0 := 1) (k := 1) U sc__law_low (fun cdv A outer s H E hg hr => ?_)
  exact (rss_cons (rs_set (i := 1) (hs := rfl) (hf := (by first | exact Or.inl rfl | exact Or.inr rfl)) sc__law_low.nd rfl (by first | exact Or.inl rfl | exact Or.inr rfl) (re_call (hdb := (by decide)) (he := sn_name) (hpl := rfl) C__law_from hg (hr.mono (by decide)) rfl (ra_cel (i := 0) (hd := (by decide)) (hcd := (by decide)) (hs := sn_name) rfl (by first | exact Or.inl rfl | exact Or.inr (Or.inl rfl) | exact Or.inr (Or.inr rfl)) (ra_cons (hs := sn_const) re_int ra_nil))))
  (rss_cons (rs_if (rt_lt (v 1) re_int) (rss_one (rs_ret (re_sub (re_call (hdb := (by decide)) (he := sn_name) (hpl := rfl) C__law_from hg (hr.mono (by decide)) rfl (ra_cel (i := 0) (hd := (by decide)) (hcd := (by decide)) (hs := sn_name) rfl (by first | exact Or.inl rfl | exact Or.inr (Or.inl rfl) | exact Or.inr (Or.inr rfl)) (ra_cons (hs := sn_const) re_int ra_nil))) re_int))) rss_nil)
  (rss_one (rs_ret (re_if (rt_eq (hu64 hr) (v 1) re_int) (re_sub (re_call (hdb := (by decide)) (he := sn_name) (hpl := rfl) C__law_from hg (hr.mono (by decide)) rfl (ra_cel (i := 0) (hd := (by decide)) (hcd := (by decide)) (hs := sn_name) rfl (by first | exact Or.inl rfl | exact Or.inr (Or.inl rfl) | exact Or.inr (Or.inr rfl)) (ra_cons (hs := sn_const) re_int ra_nil))) re_int) (re_sub (re_call (hdb := (by decide)) (he := sn_name) (hpl := rfl) C__law_from hg (hr.mono (by decide)) rfl (ra_cel (i := 0) (hd := (by decide)) (hcd := (by decide)) (hs := sn_name) rfl (by first | exact Or.inl rfl | exact Or.inr (Or.inl rfl) | exact Or.inr (Or.inr rfl)) (ra_cons (hs := sn_const) re_int ra_nil))) re_int))))))
theorem ok__law_common {f : Addr} {fd : FuncData} (U : Fun K "_law_common" "_law_common" s__law_common f fd) (T : Tx K mg)  : FnG P w K mg base 1 f fd ["_law_numbers"] F__law_common := by
  refine fng_of (n0 := 0) (k := 0) U sc__law_common (fun cdv A outer s H E hg hr => ?_)
  exact (rss_cons (rs_set (i := 1) (hs := rfl) (hf := (by first | exact Or.inl rfl | exact Or.inr rfl)) sc__law_common.nd rfl (by first | exact Or.inl rfl | exact Or.inr rfl) re_int)
  (rss_cons (rs_for (hs := fun _ => rfl) PassesOwn.never rfl (ri_seq (v 0)) (rg_name (i := 2) sc__law_common.nd rfl (by first | exact Or.inl rfl | exact Or.inr rfl)) (fun _ => (rss_cons (rs_par (i := 4) (j := 5) rfl sc__law_common.nd rfl rfl (by decide) rfl rfl (ra_cons (hs := sn_name) (v 1) (ra_cons (hs := sn_call) (re_abs (he := sn_name) rfl T.b_abs (ra_cons (hs := sn_name) (v 2) ra_nil)) ra_nil)) (P := ps_par (by rfl) sc__law_common.nd rfl rfl (by decide) rfl rfl (pwA _) (by rfl)))
  (rss_cons (rs_for (hs := fun _ => rfl) PassesOwn.never rfl (ri_range1 (hs := rfl) rfl T.b_range (ra_cons (hs := sn_const) re_int ra_nil)) (rg_name (i := 3) sc__law_common.nd rfl (by first | exact Or.inl rfl | exact Or.inr rfl)) (fun _ => (rss_cons (rs_if (rt_eq (hu64 hr) (v 5) re_int) (rss_one rs_break) rss_nil)
  (rss_one (rs_par (i := 4) (j := 5) rfl sc__law_common.nd rfl rfl (by decide) rfl rfl (ra_cons (hs := sn_name) (v 5) (ra_cons (hs := sn_bin) (re_mod (re_intc (he := sn_name) rfl T.b_int (ra_cons (hs := sn_name) (v 4) ra_nil)) (v 5)) ra_nil)) (P := ps_par (by rfl) sc__law_common.nd rfl rfl (by decide) rfl rfl (pwA _) (by rfl)))))))
  (rss_one (rs_set (i := 1) (hs := rfl) (hf := (by first | exact Or.inl rfl | exact Or.inr rfl)) sc__law_common.nd rfl (by first | exact Or.inl rfl | exact Or.inr rfl) (v 4)))))))
  (rss_one (rs_ret (v 1)))))
theorem ok__law_least {f : Addr} {fd : FuncData} (U : Fun K "_law_least" "_law_least" s__law_least f fd) (T : Tx K mg) (C__law_common : At P w K mg base 1 "_law_common" ["_law_numbers"] F__law_common) : FnG P w K mg base 2 f fd ["_law_numbers"] F__law_least := by
  refine fng_of (n0 := 0) (k := 1) U sc__law_least (fun cdv A outer s H E hg hr => ?_)
  exact (rss_cons (rs_set (i := 1) (hs := rfl) (hf := (by first | exact Or.inl rfl | exact Or.inr rfl)) sc__law_least.nd rfl (by first | exact Or.inl rfl | exact Or.inr rfl) (re_max (he := sn_const) (hpl := rfl) rfl rfl T.b_max (ra_cons (hs := sn_const) re_int (ra_cons (hs := sn_call) (re_call (hdb := (by decide)) (he := sn_name) (hpl := rfl) C__law_common hg (hr.mono (by decide)) rfl (ra_cons (hs := sn_name) (v 0) ra_nil)) ra_nil))))
  (rss_one (rs_ret (re_tuple (he := sn_lc) rfl T.b_tuple (ra_cons (hs := sn_lc) (re_ofL (rl_lc (own := [("_law_number", 2)]) (hs := fun _ => rfl) rfl sc__law_least.nd (ri_seq (v 0)) (blkOk_by (N := n__law_least) (sc := defScope s__law_least) (by decide +kernel)) (fun _ _ _ _ _ => (rg_name (i := 2) sc__law_least.nd rfl (by first | exact Or.inl rfl | exact Or.inr rfl))) (fun _ _ _ _ _ => rts_nil) (fun _ _ _ _ _ => (re_div (v 2) (v 1))) (by decide))) ra_nil)))))
theorem ok__law_ratio {f : Addr} {fd : FuncData} (U : Fun K "_law_ratio" "_law_ratio" s__law_ratio f fd) (T : Tx K mg) (C__law_least : At P w K mg base 2 "_law_least" ["_law_numbers"] F__law_least) : FnG P w K mg base 3 f fd ["_law_p", "_law_q"] F__law_ratio := by
  refine fng_of (n0 := 0) (k := 2) U sc__law_ratio (fun cdv A outer s H E hg hr => ?_)
  exact (rss_cons (rs_asg (hs := rfl) (hw := rfl) (h1 := rfl) (re_call (hdb := (by decide)) (he := sn_tup) (hpl := rfl) C__law_least hg (hr.mono (by decide)) rfl (ra_cons (hs := sn_tup) (re_tup (ra_cons (hs := sn_name) (v 0) (ra_cons (hs := sn_name) (v 1) ra_nil))) ra_nil)) (rg_tupK K rfl (hn := rfl) (hst := rfl) rfl (rgs_cons (hs := rfl) (rg_name (i := 2) sc__law_ratio.nd rfl (by first | exact Or.inl rfl | exact Or.inr rfl)) (rgs_cons (hs := rfl) (rg_name (i := 3) sc__law_ratio.nd rfl (by first | exact Or.inl rfl | exact Or.inr rfl)) rgs_nil))))
  (rss_one (rs_ret (re_if (rt_gt (v 3) re_int) (re_tup (ra_cons (hs := sn_name) (v 2) (ra_cons (hs := sn_name) (v 3) ra_nil))) (re_tup (ra_cons (hs := sn_bin) (re_sub re_int (v 2)) (ra_cons (hs := sn_bin) (re_sub re_int (v 3)) ra_nil)))))))
theorem ok__law_plus {f : Addr} {fd : FuncData} (U : Fun K "_law_plus" "_law_plus" s__law_plus f fd) (T : Tx K mg) (C__law_ratio : At P w K mg base 3 "_law_ratio" ["_law_p", "_law_q"] F__law_ratio) : FnG P w K mg base 4 f fd ["_law_one", "_law_two"] F__law_plus := by
  refine fng_of (n0 := 0) (k := 3) U sc__law_plus (fun cdv A outer s H E hg hr => ?_)
  exact (rss_one (rs_ret (re_call (hdb := (by decide)) (he := sn_bin) (hpl := rfl) C__law_ratio hg (hr.mono (by decide)) rfl (ra_cons (hs := sn_bin) (re_plus (re_mul (re_ix (hs := fun _ _ => rfl) (v 0) re_int) (re_ix (hs := fun _ _ => rfl) (v 1) re_int)) (re_mul (re_ix (hs := fun _ _ => rfl) (v 1) re_int) (re_ix (hs := fun _ _ => rfl) (v 0) re_int))) (ra_cons (hs := sn_bin) (re_mul (re_ix (hs := fun _ _ => rfl) (v 0) re_int) (re_ix (hs := fun _ _ => rfl) (v 1) re_int)) ra_nil)))))
theorem ok__law_by {f : Addr} {fd : FuncData} (U : Fun K "_law_by" "_law_by" s__law_by f fd) (T : Tx K mg) (C__law_ratio : At P w K mg base 3 "_law_ratio" ["_law_p", "_law_q"] F__law_ratio) : FnG P w K mg base 4 f fd ["_law_one", "_law_two"] F__law_by := by
  refine fng_of (n0 := 0) (k := 3) U sc__law_by (fun cdv A outer s H E hg hr => ?_)
  exact (rss_one (rs_ret (re_call (hdb := (by decide)) (he := sn_bin) (hpl := rfl) C__law_ratio hg (hr.mono (by decide)) rfl (ra_cons (hs := sn_bin) (re_mul (re_ix (hs := fun _ _ => rfl) (v 0) re_int) (re_ix (hs := fun _ _ => rfl) (v 1) re_int)) (ra_cons (hs := sn_bin) (re_mul (re_ix (hs := fun _ _ => rfl) (v 0) re_int) (re_ix (hs := fun _ _ => rfl) (v 1) re_int)) ra_nil)))))
theorem ok__law_root {f : Addr} {fd : FuncData} (U : Fun K "_law_root" "_law_root" s__law_root f fd) (T : Tx K mg)  : FnG P w K mg base 1 f fd ["_law_number"] F__law_root := by
  refine fng_of (n0 := 0) (k := 0) U sc__law_root (fun cdv A outer s H E hg hr => ?_)
  exact (rss_cons (rs_asg (hs := rfl) (hw := rfl) (h1 := rfl) (re_tup (ra_cons (hs := sn_const) re_int (ra_cons (hs := sn_const) re_int ra_nil))) (rg_tupK K rfl (hn := rfl) (hst := rfl) rfl (rgs_cons (hs := rfl) (rg_name (i := 2) sc__law_root.nd rfl (by first | exact Or.inl rfl | exact Or.inr rfl)) (rgs_cons (hs := rfl) (rg_name (i := 3) sc__law_root.nd rfl (by first | exact Or.inl rfl | exact Or.inr rfl)) rgs_nil))))
  (rss_cons (rs_for (hs := fun _ => rfl) PassesOwn.never rfl (ri_range1 (hs := rfl) rfl T.b_range (ra_cons (hs := sn_const) re_int ra_nil)) (rg_name (i := 1) sc__law_root.nd rfl (by first | exact Or.inl rfl | exact Or.inr rfl)) (fun _ => (rss_cons (rs_if (rt_gt (re_mul (v 3) (v 3)) (v 0)) (rss_one rs_break) rss_nil)
  (rss_one (rs_set (i := 3) (hs := rfl) (hf := (by first | exact Or.inl rfl | exact Or.inr rfl)) sc__law_root.nd rfl (by first | exact Or.inl rfl | exact Or.inr rfl) (re_mul (v 3) re_int))))))
  (rss_cons (rs_for (hs := fun _ => rfl) PassesOwn.never rfl (ri_range1 (hs := rfl) rfl T.b_range (ra_cons (hs := sn_const) re_int ra_nil)) (rg_name (i := 1) sc__law_root.nd rfl (by first | exact Or.inl rfl | exact Or.inr rfl)) (fun _ => (rss_cons (rs_if (rt_lt (re_sub (v 3) (v 2)) re_int) (rss_one rs_break) rss_nil)
  (rss_cons (rs_set (i := 4) (hs := rfl) (hf := (by first | exact Or.inl rfl | exact Or.inr rfl)) sc__law_root.nd rfl (by first | exact Or.inl rfl | exact Or.inr rfl) (re_div (re_plus (v 2) (v 3)) re_int))
  (rss_one (rs_if (rt_gt (re_mul (v 4) (v 4)) (v 0)) (rss_one (rs_set (i := 3) (hs := rfl) (hf := (by first | exact Or.inl rfl | exact Or.inr rfl)) sc__law_root.nd rfl (by first | exact Or.inl rfl | exact Or.inr rfl) (v 4))) (rss_one (rs_set (i := 2) (hs := rfl) (hf := (by first | exact Or.inl rfl | exact Or.inr rfl)) sc__law_root.nd rfl (by first | exact Or.inl rfl | exact Or.inr rfl) (v 4)))))))))
  (rss_one (rs_ret (v 2))))))
theorem ok__law_are_whole {f : Addr} {fd : FuncData} (U : Fun K "_law_are_whole" "_law_are_whole" s__law_are_whole f fd) (T : Tx K mg)  : FnG P w K mg base 1 f fd ["_law_told"] F__law_are_whole := by
  refine fng_of (n0 := 0) (k := 0) U sc__law_are_whole (fun cdv A outer s H E hg hr => ?_)
  exact (rss_one (rs_ret (re_eq (hu64 hr) (re_ofL (rl_lc (own := [("_law_each", 1)]) (hs := fun _ => rfl) rfl sc__law_are_whole.nd (ri_seq (v 0)) (blkOk_by (N := n__law_are_whole) (sc := defScope s__law_are_whole) (by decide +kernel)) (fun _ _ _ _ _ => (rg_name (i := 1) sc__law_are_whole.nd rfl (by first | exact Or.inl rfl | exact Or.inr rfl))) (fun _ _ _ _ _ => (rts_one (rt_w (rw_or (rt_not (rt_val (he := fun _ => rfl) (re_isi (he := sn_name) (he2 := sn_name) (hpl := rfl) (hnT := (by decide)) (hdT := (by decide)) rfl T.b_isinstance rfl T.b_int (by decide +kernel) (v 1)))) (rw_or1 (rt_val (he := fun _ => rfl) (re_isi (he := sn_name) (he2 := sn_name) (hpl := rfl) (hnT := (by decide)) (hdT := (by decide)) rfl T.b_isinstance rfl T.b_bool (by decide +kernel) (v 1)))))))) (fun _ _ _ _ _ => (v 1)) (by decide))) (re_ofL (rl_lst ra_nil)))))
theorem ok__law_is_row {f : Addr} {fd : FuncData} (U : Fun K "_law_is_row" "_law_is_row" s__law_is_row f fd) (T : Tx K mg) (C__law_are_whole : At P w K mg base 1 "_law_are_whole" ["_law_told"] F__law_are_whole) (C__law_common : At P w K mg base 1 "_law_common" ["_law_numbers"] F__law_common) : FnG P w K mg base 2 f fd ["_law_told", "_law_many"] F__law_is_row := by
  refine fng_of (n0 := 0) (k := 1) U sc__law_is_row (fun cdv A outer s H E hg hr => ?_)
  exact (rss_one (rs_ret (re_and (re_isi (he := sn_name) (he2 := sn_name) (hpl := rfl) (hnT := (by decide)) (hdT := (by decide)) rfl T.b_isinstance rfl T.b_tuple (by decide +kernel) (v 0)) (re_and (re_eq (hu64 hr) (re_len (he := sn_name) rfl T.b_len (ra_cons (hs := sn_name) (v 0) ra_nil)) (v 1)) (re_and (re_call (hdb := (by decide)) (he := sn_name) (hpl := rfl) C__law_are_whole hg (hr.mono (by decide)) rfl (ra_cons (hs := sn_name) (v 0) ra_nil)) (re_one (re_eq (hu64 hr) (re_call (hdb := (by decide)) (he := sn_name) (hpl := rfl) C__law_common hg (hr.mono (by decide)) rfl (ra_cons (hs := sn_name) (v 0) ra_nil)) re_int)))))))
theorem ok__law_cone {f : Addr} {fd : FuncData} (U : Fun K "_law_cone" "_law_cone" s__law_cone f fd) (T : Tx K mg)  : FnG P w K mg base 1 f fd ["_law_numbers"] F__law_cone := by
  refine fng_of (n0 := 0) (k := 0) U sc__law_cone (fun cdv A outer s H E hg hr => ?_)
  exact (rss_cons (rs_asg (hs := rfl) (hw := rfl) (h1 := rfl) (re_sl (v 0) ro_none (ro_some re_int)) (rg_tupK K rfl (hn := rfl) (hst := rfl) rfl (rgs_cons (hs := rfl) (rg_name (i := 1) sc__law_cone.nd rfl (by first | exact Or.inl rfl | exact Or.inr rfl)) (rgs_cons (hs := rfl) (rg_name (i := 2) sc__law_cone.nd rfl (by first | exact Or.inl rfl | exact Or.inr rfl)) (rgs_cons (hs := rfl) (rg_name (i := 3) sc__law_cone.nd rfl (by first | exact Or.inl rfl | exact Or.inr rfl)) (rgs_cons (hs := rfl) (rg_name (i := 4) sc__law_cone.nd rfl (by first | exact Or.inl rfl | exact Or.inr rfl)) rgs_nil))))))
  (rss_one (rs_ret (re_sub (re_sub (re_sub (re_mul (v 1) (v 1)) (re_mul (v 2) (v 2))) (re_mul (v 3) (v 3))) (re_mul (v 4) (v 4))))))
theorem ok__law_is_shine {f : Addr} {fd : FuncData} (U : Fun K "_law_is_shine" "_law_is_shine" s__law_is_shine f fd) (T : Tx K mg) (C__law_cone : At P w K mg base 1 "_law_cone" ["_law_numbers"] F__law_cone) (C__law_is_row : At P w K mg base 2 "_law_is_row" ["_law_told", "_law_many"] F__law_is_row) : FnG P w K mg base 3 f fd ["_law_told"] F__law_is_shine := by
  refine fng_of (n0 := 0) (k := 2) U sc__law_is_shine (fun cdv A outer s H E hg hr => ?_)
  exact (rss_one (rs_ret (re_and (re_call (hdb := (by decide)) (he := sn_name) (hpl := rfl) C__law_is_row hg (hr.mono (by decide)) rfl (ra_cons (hs := sn_name) (v 0) (ra_cons (hs := sn_const) re_int ra_nil))) (re_and (re_gt (re_ix (hs := fun _ _ => rfl) (v 0) re_int) re_int) (re_and (re_ge (re_ix (hs := fun _ _ => rfl) (v 0) re_int) re_int) (re_one (re_ge (re_call (hdb := (by decide)) (he := sn_name) (hpl := rfl) C__law_cone hg (hr.mono (by decide)) rfl (ra_cons (hs := sn_name) (v 0) ra_nil)) re_int)))))))
theorem ok__law_dot {f : Addr} {fd : FuncData} (U : Fun K "_law_dot" "_law_dot" s__law_dot f fd) (T : Tx K mg)  : FnG P w K mg base 1 f fd ["_law_one", "_law_two"] F__law_dot := by
  refine fng_of (n0 := 0) (k := 0) U sc__law_dot (fun cdv A outer s H E hg hr => ?_)
  exact (rss_one (rs_ret (re_sum (he := sn_lc) rfl rfl T.b_sum (ra_cons (hs := sn_lc) (re_ofL (rl_lc (own := [("_law_here", 2), ("_law_there", 3)]) (hs := fun _ => rfl) rfl sc__law_dot.nd (ri_zip (hs := by first | rfl | with_reducible exact sn_name) (hpl := rfl) rfl T.b_zip (ra_cons (hs := sn_name) (v 0) (ra_cons (hs := sn_name) (v 1) ra_nil))) (blkOk_by (N := n__law_dot) (sc := defScope s__law_dot) (by decide +kernel)) (fun _ _ _ _ _ => (rg_tupK K rfl (hn := rfl) (hst := rfl) rfl (rgs_cons (hs := rfl) (rg_name (i := 2) sc__law_dot.nd rfl (by first | exact Or.inl rfl | exact Or.inr rfl)) (rgs_cons (hs := rfl) (rg_name (i := 3) sc__law_dot.nd rfl (by first | exact Or.inl rfl | exact Or.inr rfl)) rgs_nil)))) (fun _ _ _ _ _ => rts_nil) (fun _ _ _ _ _ => (re_mul (v 2) (v 3))) (by decide))) ra_nil))))
theorem ok__law_hue {f : Addr} {fd : FuncData} (U : Fun K "_law_hue" "_law_hue" s__law_hue f fd) (T : Tx K mg) (C__law_from : At P w K mg base 1 "_law_from" ["_law_tap_here", "_law_many"] F__law_from) (C__law_least : At P w K mg base 2 "_law_least" ["_law_numbers"] F__law_least) (C__law_pick : At P w K mg base 2 "_law_pick" ["_law_tap_here", "_law_some"] F__law_pick) : FnG P w K mg base 3 f fd ["_law_tap_here"] F__law_hue := by
  refine fng_of (n0 := 1) (k := 2) U sc__law_hue (fun cdv A outer s H E hg hr => ?_)
  exact (rss_cons (rs_set (i := 1) (hs := rfl) (hf := (by first | exact Or.inl rfl | exact Or.inr rfl)) sc__law_hue.nd rfl (by first | exact Or.inl rfl | exact Or.inr rfl) (re_call (hdb := (by decide)) (he := sn_name) (hpl := rfl) C__law_from hg (hr.mono (by decide)) rfl (ra_cel (i := 0) (hd := (by decide)) (hcd := (by decide)) (hs := sn_name) rfl (by first | exact Or.inl rfl | exact Or.inr (Or.inl rfl) | exact Or.inr (Or.inr rfl)) (ra_cons (hs := sn_const) re_int ra_nil))))
  (rss_cons (rs_if (rt_lt (v 1) re_int) (rss_one (rs_ret (re_ix (hs := fun _ _ => rfl) (re_ofL (rl_lst (ra_cons (hs := sn_tup) (re_tup (ra_cons (hs := sn_const) re_int (ra_cons (hs := sn_const) re_int (ra_cons (hs := sn_const) re_int (ra_cons (hs := sn_const) re_int ra_nil))))) (ra_cons (hs := sn_tup) (re_tup (ra_cons (hs := sn_un) (re_neg re_int) (ra_cons (hs := sn_const) re_int (ra_cons (hs := sn_const) re_int (ra_cons (hs := sn_const) re_int ra_nil))))) (ra_cons (hs := sn_tup) (re_tup (ra_cons (hs := sn_const) re_int (ra_cons (hs := sn_const) re_int (ra_cons (hs := sn_const) re_int (ra_cons (hs := sn_const) re_int ra_nil))))) (ra_cons (hs := sn_tup) (re_tup (ra_cons (hs := sn_const) re_int (ra_cons (hs := sn_un) (re_neg re_int) (ra_cons (hs := sn_const) re_int (ra_cons (hs := sn_const) re_int ra_nil))))) (ra_cons (hs := sn_tup) (re_tup (ra_cons (hs := sn_const) re_int (ra_cons (hs := sn_const) re_int (ra_cons (hs := sn_const) re_int (ra_cons (hs := sn_const) re_int ra_nil))))) (ra_cons (hs := sn_tup) (re_tup (ra_cons (hs := sn_const) re_int (ra_cons (hs := sn_const) re_int (ra_cons (hs := sn_un) (re_neg re_int) (ra_cons (hs := sn_const) re_int ra_nil))))) ra_nil)))))))) (v 1)))) rss_nil)
  (rss_cons (rs_set (i := 2) (hs := rfl) (hf := (by first | exact Or.inl rfl | exact Or.inr rfl)) sc__law_hue.nd rfl (by first | exact Or.inl rfl | exact Or.inr rfl) (re_call (hdb := (by decide)) (he := sn_name) (hpl := rfl) C__law_pick hg (hr.mono (by decide)) rfl (ra_cel (i := 0) (hd := (by decide)) (hcd := (by decide)) (hs := sn_name) rfl (by first | exact Or.inl rfl | exact Or.inr (Or.inl rfl) | exact Or.inr (Or.inr rfl)) (ra_cons (hs := sn_tup) (re_tup (ra_cons (hs := sn_const) re_int (ra_cons (hs := sn_const) re_int (ra_cons (hs := sn_const) re_int ra_nil)))) ra_nil))))
  (rss_cons (rs_par (i := 4) (j := 5) rfl sc__law_hue.nd rfl rfl (by decide) rfl rfl (ra_cons (hs := sn_bin) (re_sub (re_call (hdb := (by decide)) (he := sn_name) (hpl := rfl) C__law_from hg (hr.mono (by decide)) rfl (ra_cel (i := 0) (hd := (by decide)) (hcd := (by decide)) (hs := sn_name) rfl (by first | exact Or.inl rfl | exact Or.inr (Or.inl rfl) | exact Or.inr (Or.inr rfl)) (ra_cons (hs := sn_bin) (re_plus (re_mul re_int (v 2)) re_int) ra_nil))) (v 2)) (ra_cons (hs := sn_bin) (re_sub (re_call (hdb := (by decide)) (he := sn_name) (hpl := rfl) C__law_from hg (hr.mono (by decide)) rfl (ra_cel (i := 0) (hd := (by decide)) (hcd := (by decide)) (hs := sn_name) rfl (by first | exact Or.inl rfl | exact Or.inr (Or.inl rfl) | exact Or.inr (Or.inr rfl)) (ra_cons (hs := sn_bin) (re_plus (re_mul re_int (v 2)) re_int) ra_nil))) (v 2)) ra_nil)) (P := ps_par (by rfl) sc__law_hue.nd rfl rfl (by decide) rfl rfl (pwA _) (by rfl)))
  (rss_cons (rs_set (i := 3) (hs := rfl) (hf := (by first | exact Or.inl rfl | exact Or.inr rfl)) sc__law_hue.nd rfl (by first | exact Or.inl rfl | exact Or.inr rfl) (re_plus re_int (re_call (hdb := (by decide)) (he := sn_name) (hpl := rfl) C__law_from hg (hr.mono (by decide)) rfl (ra_cel (i := 0) (hd := (by decide)) (hcd := (by decide)) (hs := sn_name) rfl (by first | exact Or.inl rfl | exact Or.inr (Or.inl rfl) | exact Or.inr (Or.inr rfl)) (ra_cons (hs := sn_name) (v 2) ra_nil)))))
  (rss_one (rs_ret (re_call (hdb := (by decide)) (he := sn_tup) (hpl := rfl) C__law_least hg (hr.mono (by decide)) rfl (ra_cons (hs := sn_tup) (re_tup (ra_cons (hs := sn_bin) (re_mul (re_mul re_int (v 4)) (v 3)) (ra_cons (hs := sn_bin) (re_mul (re_mul re_int (v 5)) (v 3)) (ra_cons (hs := sn_bin) (re_sub (re_sub (re_mul (v 3) (v 3)) (re_mul (v 4) (v 4))) (re_mul (v 5) (v 5))) (ra_cons (hs := sn_bin) (re_plus (re_plus (re_mul (v 3) (v 3)) (re_mul (v 4) (v 4))) (re_mul (v 5) (v 5))) ra_nil))))) ra_nil)))))))))
theorem ok__law_shine {f : Addr} {fd : FuncData} (U : Fun K "_law_shine" "_law_shine" s__law_shine f fd) (T : Tx K mg) (C__law_dot : At P w K mg base 1 "_law_dot" ["_law_one", "_law_two"] F__law_dot) (C__law_from : At P w K mg base 1 "_law_from" ["_law_tap_here", "_law_many"] F__law_from) (C__law_hue : At P w K mg base 3 "_law_hue" ["_law_tap_here"] F__law_hue) (C__law_least : At P w K mg base 2 "_law_least" ["_law_numbers"] F__law_least) (C__law_low : At P w K mg base 2 "_law_low" ["_law_tap_here"] F__law_low) (C__law_pick : At P w K mg base 2 "_law_pick" ["_law_tap_here", "_law_some"] F__law_pick) (C__law_root : At P w K mg base 1 "_law_root" ["_law_number"] F__law_root) : FnG P w K mg base 4 f fd ["_law_tap_here"] F__law_shine := by
  refine fng_of (n0 := 1) (k := 3) U sc__law_shine (fun cdv A outer s H E hg hr => ?_)
  exact (rss_cons (rs_par (i := 5) (j := 6) rfl sc__law_shine.nd rfl rfl (by decide) rfl rfl (ra_cons (hs := sn_call) (re_call (hdb := (by decide)) (he := sn_name) (hpl := rfl) C__law_from hg (hr.mono (by decide)) rfl (ra_cel (i := 0) (hd := (by decide)) (hcd := (by decide)) (hs := sn_name) rfl (by first | exact Or.inl rfl | exact Or.inr (Or.inl rfl) | exact Or.inr (Or.inr rfl)) (ra_cons (hs := sn_const) re_int ra_nil))) (ra_cons (hs := sn_bin) (re_plus re_int (re_call (hdb := (by decide)) (he := sn_name) (hpl := rfl) C__law_from hg (hr.mono (by decide)) rfl (ra_cel (i := 0) (hd := (by decide)) (hcd := (by decide)) (hs := sn_name) rfl (by first | exact Or.inl rfl | exact Or.inr (Or.inl rfl) | exact Or.inr (Or.inr rfl)) (ra_cons (hs := sn_call) (re_call (hdb := (by decide)) (he := sn_name) (hpl := rfl) C__law_pick hg (hr.mono (by decide)) rfl (ra_cel (i := 0) (hd := (by decide)) (hcd := (by decide)) (hs := sn_name) rfl (by first | exact Or.inl rfl | exact Or.inr (Or.inl rfl) | exact Or.inr (Or.inr rfl)) (ra_cons (hs := sn_tup) (re_tup (ra_cons (hs := sn_const) re_int (ra_cons (hs := sn_const) re_int (ra_cons (hs := sn_const) re_int (ra_cons (hs := sn_const) re_int ra_nil))))) ra_nil))) ra_nil)))) ra_nil)) (P := ps_par (by rfl) sc__law_shine.nd rfl rfl (by decide) rfl rfl (pwA _) (by rfl)))
  (rss_cons (rs_if (rt_eq (hu64 hr) (v 5) re_int) (rss_one (rs_ret (re_tup (ra_cons (hs := sn_const) re_int (ra_cons (hs := sn_const) re_int (ra_cons (hs := sn_const) re_int (ra_cons (hs := sn_const) re_int (ra_cons (hs := sn_const) re_int ra_nil)))))))) rss_nil)
  (rss_cons (rs_if (rt_eq (hu64 hr) (v 5) re_int) (rss_one (rs_ret (re_call (hdb := (by decide)) (he := sn_tup) (hpl := rfl) C__law_least hg (hr.mono (by decide)) rfl (ra_cons (hs := sn_tup) (re_tup (ra_cons (hs := sn_bin) (re_plus re_int (re_call (hdb := (by decide)) (he := sn_name) (hpl := rfl) C__law_from hg (hr.mono (by decide)) rfl (ra_cel (i := 0) (hd := (by decide)) (hcd := (by decide)) (hs := sn_name) rfl (by first | exact Or.inl rfl | exact Or.inr (Or.inl rfl) | exact Or.inr (Or.inr rfl)) (ra_cons (hs := sn_const) re_int ra_nil)))) (ra_cons (hs := sn_const) re_int (ra_cons (hs := sn_const) re_int (ra_cons (hs := sn_const) re_int (ra_cons (hs := sn_name) (v 6) ra_nil)))))) ra_nil)))) rss_nil)
  (rss_cons (rs_if (rt_lt (v 5) re_int) (rss_cons (rs_par (i := 7) (j := 8) rfl sc__law_shine.nd rfl rfl (by decide) rfl rfl (ra_cons (hs := sn_call) (re_call (hdb := (by decide)) (he := sn_name) (hpl := rfl) C__law_hue hg (hr.mono (by decide)) rfl (ra_cel (i := 0) (hd := (by decide)) (hcd := (by decide)) (hs := sn_name) rfl (by first | exact Or.inl rfl | exact Or.inr (Or.inl rfl) | exact Or.inr (Or.inr rfl)) ra_nil)) (ra_cons (hs := sn_bin) (re_plus re_int (re_call (hdb := (by decide)) (he := sn_name) (hpl := rfl) C__law_from hg (hr.mono (by decide)) rfl (ra_cel (i := 0) (hd := (by decide)) (hcd := (by decide)) (hs := sn_name) rfl (by first | exact Or.inl rfl | exact Or.inr (Or.inl rfl) | exact Or.inr (Or.inr rfl)) (ra_cons (hs := sn_const) re_int ra_nil)))) ra_nil)) (P := ps_par (by rfl) sc__law_shine.nd rfl rfl (by decide) rfl rfl (pwA _) (by rfl)))
  (rss_one (rs_ret (re_call (hdb := (by decide)) (he := sn_tup) (hpl := rfl) C__law_least hg (hr.mono (by decide)) rfl (ra_cons (hs := sn_tup) (re_tup (ra_cons (hs := sn_bin) (re_mul (v 8) (re_ix (hs := fun _ _ => rfl) (v 7) re_int)) (ra_cons (hs := sn_bin) (re_mul (v 8) (re_ix (hs := fun _ _ => rfl) (v 7) re_int)) (ra_cons (hs := sn_bin) (re_mul (v 8) (re_ix (hs := fun _ _ => rfl) (v 7) re_int)) (ra_cons (hs := sn_bin) (re_mul (v 8) (re_ix (hs := fun _ _ => rfl) (v 7) re_int)) (ra_cons (hs := sn_name) (v 6) ra_nil)))))) ra_nil))))) rss_nil)
  (rss_cons (rs_set (i := 1) (hs := rfl) (hf := (by first | exact Or.inl rfl | exact Or.inr rfl)) sc__law_shine.nd rfl (by first | exact Or.inl rfl | exact Or.inr rfl) (re_tup (ra_cons (hs := sn_call) (re_call (hdb := (by decide)) (he := sn_name) (hpl := rfl) C__law_low hg (hr.mono (by decide)) rfl (ra_cel (i := 0) (hd := (by decide)) (hcd := (by decide)) (hs := sn_name) rfl (by first | exact Or.inl rfl | exact Or.inr (Or.inl rfl) | exact Or.inr (Or.inr rfl)) ra_nil)) (ra_cons (hs := sn_call) (re_call (hdb := (by decide)) (he := sn_name) (hpl := rfl) C__law_low hg (hr.mono (by decide)) rfl (ra_cel (i := 0) (hd := (by decide)) (hcd := (by decide)) (hs := sn_name) rfl (by first | exact Or.inl rfl | exact Or.inr (Or.inl rfl) | exact Or.inr (Or.inr rfl)) ra_nil)) (ra_cons (hs := sn_call) (re_call (hdb := (by decide)) (he := sn_name) (hpl := rfl) C__law_low hg (hr.mono (by decide)) rfl (ra_cel (i := 0) (hd := (by decide)) (hcd := (by decide)) (hs := sn_name) rfl (by first | exact Or.inl rfl | exact Or.inr (Or.inl rfl) | exact Or.inr (Or.inr rfl)) ra_nil)) ra_nil)))))
  (rss_cons (rs_set (i := 2) (hs := rfl) (hf := (by first | exact Or.inl rfl | exact Or.inr rfl)) sc__law_shine.nd rfl (by first | exact Or.inl rfl | exact Or.inr rfl) (re_call (hdb := (by decide)) (he := sn_name) (hpl := rfl) C__law_dot hg (hr.mono (by decide)) rfl (ra_cons (hs := sn_name) (v 1) (ra_cons (hs := sn_name) (v 1) ra_nil))))
  (rss_cons (rs_set (i := 3) (hs := rfl) (hf := (by first | exact Or.inl rfl | exact Or.inr rfl)) sc__law_shine.nd rfl (by first | exact Or.inl rfl | exact Or.inr rfl) (re_call (hdb := (by decide)) (he := sn_name) (hpl := rfl) C__law_root hg (hr.mono (by decide)) rfl (ra_cons (hs := sn_name) (v 2) ra_nil)))
  (rss_cons (rs_set (i := 4) (hs := rfl) (hf := (by first | exact Or.inl rfl | exact Or.inr rfl)) sc__law_shine.nd rfl (by first | exact Or.inl rfl | exact Or.inr rfl) (re_plus (re_plus (v 3) (re_intc (he := sn_cmp) rfl T.b_int (ra_cons (hs := sn_cmp) (re_lt (re_mul (v 3) (v 3)) (v 2)) ra_nil))) (re_call (hdb := (by decide)) (he := sn_name) (hpl := rfl) C__law_pick hg (hr.mono (by decide)) rfl (ra_cel (i := 0) (hd := (by decide)) (hcd := (by decide)) (hs := sn_name) rfl (by first | exact Or.inl rfl | exact Or.inr (Or.inl rfl) | exact Or.inr (Or.inr rfl)) (ra_cons (hs := sn_tup) (re_tup (ra_cons (hs := sn_const) re_int (ra_cons (hs := sn_const) re_int (ra_cons (hs := sn_const) re_int (ra_cons (hs := sn_const) re_int (ra_cons (hs := sn_const) re_int ra_nil)))))) ra_nil)))))
  (rss_one (rs_ret (re_call (hdb := (by decide)) (he := sn_bin) (hpl := rfl) C__law_least hg (hr.mono (by decide)) rfl (ra_cons (hs := sn_bin) (re_plus (re_plus (re_tup (ra_cons (hs := sn_name) (v 4) ra_nil)) (v 1)) (re_tup (ra_cons (hs := sn_name) (v 6) ra_nil))) ra_nil))))))))))))
theorem ok__law_level {f : Addr} {fd : FuncData} (U : Fun K "_law_level" "_law_level" s__law_level f fd) (T : Tx K mg) (C__law_from : At P w K mg base 1 "_law_from" ["_law_tap_here", "_law_many"] F__law_from) (C__law_pick : At P w K mg base 2 "_law_pick" ["_law_tap_here", "_law_some"] F__law_pick) (C__law_ratio : At P w K mg base 3 "_law_ratio" ["_law_p", "_law_q"] F__law_ratio) : FnG P w K mg base 4 f fd ["_law_tap_here"] F__law_level := by
  refine fng_of (n0 := 1) (k := 3) U sc__law_level (fun cdv A outer s H E hg hr => ?_)
  exact (rss_cons (rs_par (i := 2) (j := 3) rfl sc__law_level.nd rfl rfl (by decide) rfl rfl (ra_cons (hs := sn_call) (re_call (hdb := (by decide)) (he := sn_name) (hpl := rfl) C__law_from hg (hr.mono (by decide)) rfl (ra_cel (i := 0) (hd := (by decide)) (hcd := (by decide)) (hs := sn_name) rfl (by first | exact Or.inl rfl | exact Or.inr (Or.inl rfl) | exact Or.inr (Or.inr rfl)) (ra_cons (hs := sn_const) re_int ra_nil))) (ra_cons (hs := sn_call) (re_call (hdb := (by decide)) (he := sn_name) (hpl := rfl) C__law_from hg (hr.mono (by decide)) rfl (ra_cel (i := 0) (hd := (by decide)) (hcd := (by decide)) (hs := sn_name) rfl (by first | exact Or.inl rfl | exact Or.inr (Or.inl rfl) | exact Or.inr (Or.inr rfl)) (ra_cons (hs := sn_call) (re_call (hdb := (by decide)) (he := sn_name) (hpl := rfl) C__law_pick hg (hr.mono (by decide)) rfl (ra_cel (i := 0) (hd := (by decide)) (hcd := (by decide)) (hs := sn_name) rfl (by first | exact Or.inl rfl | exact Or.inr (Or.inl rfl) | exact Or.inr (Or.inr rfl)) (ra_cons (hs := sn_tup) (re_tup (ra_cons (hs := sn_const) re_int (ra_cons (hs := sn_const) re_int (ra_cons (hs := sn_const) re_int ra_nil)))) ra_nil))) ra_nil))) ra_nil)) (P := ps_par (by rfl) sc__law_level.nd rfl rfl (by decide) rfl rfl (pwA _) (by rfl)))
  (rss_cons (rs_set (i := 1) (hs := rfl) (hf := (by first | exact Or.inl rfl | exact Or.inr rfl)) sc__law_level.nd rfl (by first | exact Or.inl rfl | exact Or.inr rfl) (re_plus re_int (re_call (hdb := (by decide)) (he := sn_name) (hpl := rfl) C__law_from hg (hr.mono (by decide)) rfl (ra_cel (i := 0) (hd := (by decide)) (hcd := (by decide)) (hs := sn_name) rfl (by first | exact Or.inl rfl | exact Or.inr (Or.inl rfl) | exact Or.inr (Or.inr rfl)) (ra_cons (hs := sn_call) (re_call (hdb := (by decide)) (he := sn_name) (hpl := rfl) C__law_pick hg (hr.mono (by decide)) rfl (ra_cel (i := 0) (hd := (by decide)) (hcd := (by decide)) (hs := sn_name) rfl (by first | exact Or.inl rfl | exact Or.inr (Or.inl rfl) | exact Or.inr (Or.inr rfl)) (ra_cons (hs := sn_tup) (re_tup (ra_cons (hs := sn_const) re_int (ra_cons (hs := sn_const) re_int (ra_cons (hs := sn_const) re_int ra_nil)))) ra_nil))) ra_nil)))))
  (rss_cons (rs_if (rt_lt (v 2) re_int) (rss_one (rs_ret (re_call (hdb := (by decide)) (he := sn_bin) (hpl := rfl) C__law_ratio hg (hr.mono (by decide)) rfl (ra_cons (hs := sn_bin) (re_mul (v 3) (v 3)) (ra_cons (hs := sn_bin) (re_mul (v 1) (v 1)) ra_nil))))) rss_nil)
  (rss_one (rs_ret (re_if (rt_eq (hu64 hr) (v 2) re_int) (re_call (hdb := (by decide)) (he := sn_bin) (hpl := rfl) C__law_ratio hg (hr.mono (by decide)) rfl (ra_cons (hs := sn_bin) (re_plus (re_mul (v 3) (v 3)) (re_call (hdb := (by decide)) (he := sn_name) (hpl := rfl) C__law_from hg (hr.mono (by decide)) rfl (ra_cel (i := 0) (hd := (by decide)) (hcd := (by decide)) (hs := sn_name) rfl (by first | exact Or.inl rfl | exact Or.inr (Or.inl rfl) | exact Or.inr (Or.inr rfl)) (ra_cons (hs := sn_const) re_int ra_nil)))) (ra_cons (hs := sn_bin) (re_mul (v 1) (v 1)) ra_nil))) (re_call (hdb := (by decide)) (he := sn_name) (hpl := rfl) C__law_ratio hg (hr.mono (by decide)) rfl (ra_cons (hs := sn_name) (v 3) (ra_cons (hs := sn_name) (v 1) ra_nil)))))))))
theorem ok__law_is_multiple {f : Addr} {fd : FuncData} (U : Fun K "_law_is_multiple" "_law_is_multiple" s__law_is_multiple f fd) (T : Tx K mg) (C__law_cone : At P w K mg base 1 "_law_cone" ["_law_numbers"] F__law_cone) (C__law_least : At P w K mg base 2 "_law_least" ["_law_numbers"] F__law_least) : FnG P w K mg base 3 f fd ["_law_shine_here", "_law_hue_here"] F__law_is_multiple := by
  refine fng_of (n0 := 0) (k := 2) U sc__law_is_multiple (fun cdv A outer s H E hg hr => ?_)
  exact (rss_one (rs_ret (re_or (re_eq (hu64 hr) (re_ix (hs := fun _ _ => rfl) (v 0) re_int) re_int) (re_one (re_and (re_eq (hu64 hr) (re_call (hdb := (by decide)) (he := sn_name) (hpl := rfl) C__law_cone hg (hr.mono (by decide)) rfl (ra_cons (hs := sn_name) (v 0) ra_nil)) re_int) (re_one (re_eq (hu64 hr) (re_call (hdb := (by decide)) (he := sn_bin) (hpl := rfl) C__law_least hg (hr.mono (by decide)) rfl (ra_cons (hs := sn_bin) (re_plus (re_sl (v 0) (ro_some re_int) (ro_some re_int)) (re_tup (ra_cons (hs := sn_sub) (re_ix (hs := fun _ _ => rfl) (v 0) re_int) ra_nil))) ra_nil)) (v 1))))))))
theorem ok__law_split_right {f : Addr} {fd : FuncData} (U : Fun K "_law_split_right" "_law_split_right" s__law_split_right f fd) (T : Tx K mg) (C__law_by : At P w K mg base 4 "_law_by" ["_law_one", "_law_two"] F__law_by) (C__law_cone : At P w K mg base 1 "_law_cone" ["_law_numbers"] F__law_cone) (C__law_is_multiple : At P w K mg base 3 "_law_is_multiple" ["_law_shine_here", "_law_hue_here"] F__law_is_multiple) (C__law_is_shine : At P w K mg base 3 "_law_is_shine" ["_law_told"] F__law_is_shine) (C_added : At P w K mg base 6 "added" ["light", "other"] F_added) (C_product : At P w K mg base 6 "product" ["light", "other"] F_product) (C_pure_light : At P w K mg base 6 "pure_light" ["kind"] F_pure_light) (C_split : At P w K mg base 6 "split" ["light", "kind"] F_split) (C_times : At P w K mg base 6 "times" ["light", "part"] F_times) : FnG P w K mg base 7 f fd ["_law_shine_here", "_law_hue_here"] F__law_split_right := by
  refine fng_of (n0 := 0) (k := 6) U sc__law_split_right (fun cdv A outer s H E hg hr => ?_)
  exact (rss_cons (rs_set (i := 2) (hs := rfl) (hf := (by first | exact Or.inl rfl | exact Or.inr rfl)) sc__law_split_right.nd rfl (by first | exact Or.inl rfl | exact Or.inr rfl) (re_call (hdb := (by decide)) (he := sn_name) (hpl := rfl) C_split hg (hr.mono (by decide)) rfl (ra_cons (hs := sn_name) (v 0) (ra_cons (hs := sn_name) (v 1) ra_nil))))
  (rss_cons (rs_if (rt_w (rw_or (rt_not (rt_val (he := fun _ => rfl) (re_isi (he := sn_name) (he2 := sn_name) (hpl := rfl) (hnT := (by decide)) (hdT := (by decide)) rfl T.b_isinstance rfl T.b_tuple (by decide +kernel) (v 2)))) (rw_or (rt_ne (hu64 hr) (re_len (he := sn_name) rfl T.b_len (ra_cons (hs := sn_name) (v 2) ra_nil)) re_int) (rw_or1 (rt_not (rt_val (he := fun _ => rfl) (re_call (hdb := (by decide)) (he := sn_sub) (hpl := rfl) C__law_is_shine hg (hr.mono (by decide)) rfl (ra_cons (hs := sn_sub) (re_ix (hs := fun _ _ => rfl) (v 2) re_int) ra_nil)))))))) (rss_one (rs_ret re_bl)) rss_nil)
  (rss_cons (rs_if (rt_not (rt_val (he := fun _ => rfl) (re_call (hdb := (by decide)) (he := sn_sub) (hpl := rfl) C__law_is_shine hg (hr.mono (by decide)) rfl (ra_cons (hs := sn_sub) (re_ix (hs := fun _ _ => rfl) (v 2) re_int) ra_nil)))) (rss_one (rs_ret re_bl)) rss_nil)
  (rss_cons (rs_if (rt_w (rw_or (rt_ne (hu64 hr) (re_repr (he := sn_call) hg (hu64 hr) rfl T.b_repr (ra_cons (hs := sn_call) (re_callk (hall := rfl) (hks := rfl) (hdb := (by decide)) (hpl := rfl) C_split hg (hr.mono (by decide)) rfl (rk_cons (v 0) (rk_cons (v 1) rk_nil))) ra_nil)) (re_repr (he := sn_name) hg (hu64 hr) rfl T.b_repr (ra_cons (hs := sn_name) (v 2) ra_nil))) (rw_or1 (rt_ne (hu64 hr) (re_repr (he := sn_call) hg (hu64 hr) rfl T.b_repr (ra_cons (hs := sn_call) (re_call (hdb := (by decide)) (he := sn_sub) (hpl := rfl) C_added hg (hr.mono (by decide)) rfl (ra_cons (hs := sn_sub) (re_ix (hs := fun _ _ => rfl) (v 2) re_int) (ra_cons (hs := sn_sub) (re_ix (hs := fun _ _ => rfl) (v 2) re_int) ra_nil))) ra_nil)) (re_repr (he := sn_name) hg (hu64 hr) rfl T.b_repr (ra_cons (hs := sn_name) (v 0) ra_nil)))))) (rss_one (rs_ret re_bl)) rss_nil)
  (rss_cons (rs_if (rt_val (he := fun _ => rfl) (re_call (hdb := (by decide)) (he := sn_name) (hpl := rfl) C__law_is_multiple hg (hr.mono (by decide)) rfl (ra_cons (hs := sn_name) (v 0) (ra_cons (hs := sn_name) (v 1) ra_nil)))) (rss_one (rs_ret (re_eq (hu64 hr) (re_repr (he := sn_name) hg (hu64 hr) rfl T.b_repr (ra_cons (hs := sn_name) (v 2) ra_nil)) (re_repr (he := sn_tup) hg (hu64 hr) rfl T.b_repr (ra_cons (hs := sn_tup) (re_tup (ra_cons (hs := sn_name) (v 0) (ra_cons (hs := sn_tup) (re_tup (ra_cons (hs := sn_const) re_int (ra_cons (hs := sn_const) re_int (ra_cons (hs := sn_const) re_int (ra_cons (hs := sn_const) re_int (ra_cons (hs := sn_const) re_int ra_nil)))))) ra_nil))) ra_nil))))) rss_nil)
  (rss_cons (rs_if (rt_w (rw_or (rt_not (rt_val (he := fun _ => rfl) (re_call (hdb := (by decide)) (he := sn_sub) (hpl := rfl) C__law_is_multiple hg (hr.mono (by decide)) rfl (ra_cons (hs := sn_sub) (re_ix (hs := fun _ _ => rfl) (v 2) re_int) (ra_cons (hs := sn_name) (v 1) ra_nil))))) (rw_or (rt_eq (hu64 hr) (re_ix (hs := fun _ _ => rfl) (re_ix (hs := fun _ _ => rfl) (v 2) re_int) re_int) re_int) (rw_or1 (rt_ne (hu64 hr) (re_call (hdb := (by decide)) (he := sn_sub) (hpl := rfl) C__law_cone hg (hr.mono (by decide)) rfl (ra_cons (hs := sn_sub) (re_ix (hs := fun _ _ => rfl) (v 2) re_int) ra_nil)) re_int))))) (rss_one (rs_ret re_bl)) rss_nil)
  (rss_cons (rs_set (i := 3) (hs := rfl) (hf := (by first | exact Or.inl rfl | exact Or.inr rfl)) sc__law_split_right.nd rfl (by first | exact Or.inl rfl | exact Or.inr rfl) (re_call (hdb := (by decide)) (he := sn_name) (hpl := rfl) C_product hg (hr.mono (by decide)) rfl (ra_cons (hs := sn_name) (v 0) (ra_cons (hs := sn_call) (re_call (hdb := (by decide)) (he := sn_name) (hpl := rfl) C_pure_light hg (hr.mono (by decide)) rfl (ra_cons (hs := sn_name) (v 1) ra_nil)) ra_nil))))
  (rss_cons (rs_set (i := 4) (hs := rfl) (hf := (by first | exact Or.inl rfl | exact Or.inr rfl)) sc__law_split_right.nd rfl (by first | exact Or.inl rfl | exact Or.inr rfl) (re_call (hdb := (by decide)) (he := sn_call) (hpl := rfl) C__law_by hg (hr.mono (by decide)) rfl (ra_cons (hs := sn_call) (re_call (hdb := (by decide)) (he := sn_name) (hpl := rfl) C_product hg (hr.mono (by decide)) rfl (ra_cons (hs := sn_name) (v 0) (ra_cons (hs := sn_name) (v 0) ra_nil))) (ra_cons (hs := sn_tup) (re_tup (ra_cons (hs := sn_sub) (re_ix (hs := fun _ _ => rfl) (v 3) re_int) (ra_cons (hs := sn_bin) (re_mul re_int (re_ix (hs := fun _ _ => rfl) (v 3) re_int)) ra_nil))) ra_nil))))
  (rss_one (rs_ret (re_and (re_eq (hu64 hr) (re_repr (he := sn_sub) hg (hu64 hr) rfl T.b_repr (ra_cons (hs := sn_sub) (re_ix (hs := fun _ _ => rfl) (v 2) re_int) ra_nil)) (re_repr (he := sn_call) hg (hu64 hr) rfl T.b_repr (ra_cons (hs := sn_call) (re_call (hdb := (by decide)) (he := sn_call) (hpl := rfl) C_times hg (hr.mono (by decide)) rfl (ra_cons (hs := sn_call) (re_call (hdb := (by decide)) (he := sn_name) (hpl := rfl) C_pure_light hg (hr.mono (by decide)) rfl (ra_cons (hs := sn_name) (v 1) ra_nil)) (ra_cons (hs := sn_name) (v 4) ra_nil))) ra_nil))) (re_one (re_eq (hu64 hr) (re_eq (hu64 hr) (re_ix (hs := fun _ _ => rfl) (re_ix (hs := fun _ _ => rfl) (v 2) re_int) re_int) re_int) (re_eq (hu64 hr) (re_call (hdb := (by decide)) (he := sn_name) (hpl := rfl) C__law_cone hg (hr.mono (by decide)) rfl (ra_cons (hs := sn_name) (v 0) ra_nil)) re_int))))))))))))))
theorem ok__law_joined_right {f : Addr} {fd : FuncData} (U : Fun K "_law_joined_right" "_law_joined_right" s__law_joined_right f fd) (T : Tx K mg) (C__law_hue : At P w K mg base 3 "_law_hue" ["_law_tap_here"] F__law_hue) (C__law_level : At P w K mg base 4 "_law_level" ["_law_tap_here"] F__law_level) (C__law_plus : At P w K mg base 4 "_law_plus" ["_law_one", "_law_two"] F__law_plus) (C_added : At P w K mg base 6 "added" ["light", "other"] F_added) (C_pure_light : At P w K mg base 6 "pure_light" ["kind"] F_pure_light) (C_split : At P w K mg base 6 "split" ["light", "kind"] F_split) (C_times : At P w K mg base 6 "times" ["light", "part"] F_times) : FnG P w K mg base 7 f fd ["_law_tap_here", "_law_hue_here"] F__law_joined_right := by
  refine fng_of (n0 := 1) (k := 6) U sc__law_joined_right (fun cdv A outer s H E hg hr => ?_)
  exact (rss_cons (rs_set (i := 2) (hs := rfl) (hf := (by first | exact Or.inl rfl | exact Or.inr rfl)) sc__law_joined_right.nd rfl (by first | exact Or.inl rfl | exact Or.inr rfl) (re_call (hdb := (by decide)) (he := sn_name) (hpl := rfl) C__law_hue hg (hr.mono (by decide)) rfl (ra_cel (i := 0) (hd := (by decide)) (hcd := (by decide)) (hs := sn_name) rfl (by first | exact Or.inl rfl | exact Or.inr (Or.inl rfl) | exact Or.inr (Or.inr rfl)) ra_nil)))
  (rss_cons (rs_if (rt_eq (hu64 hr) (v 2) (v 1)) (rss_one (rs_set (i := 2) (hs := rfl) (hf := (by first | exact Or.inl rfl | exact Or.inr rfl)) sc__law_joined_right.nd rfl (by first | exact Or.inl rfl | exact Or.inr rfl) (re_tup (ra_cons (hs := sn_bin) (re_sub re_int (re_ix (hs := fun _ _ => rfl) (v 1) re_int)) (ra_cons (hs := sn_bin) (re_sub re_int (re_ix (hs := fun _ _ => rfl) (v 1) re_int)) (ra_cons (hs := sn_bin) (re_sub re_int (re_ix (hs := fun _ _ => rfl) (v 1) re_int)) (ra_cons (hs := sn_sub) (re_ix (hs := fun _ _ => rfl) (v 1) re_int) ra_nil))))))) rss_nil)
  (rss_cons (rs_set (i := 3) (hs := rfl) (hf := (by first | exact Or.inl rfl | exact Or.inr rfl)) sc__law_joined_right.nd rfl (by first | exact Or.inl rfl | exact Or.inr rfl) (re_call (hdb := (by decide)) (he := sn_call) (hpl := rfl) C_times hg (hr.mono (by decide)) rfl (ra_cons (hs := sn_call) (re_call (hdb := (by decide)) (he := sn_name) (hpl := rfl) C_pure_light hg (hr.mono (by decide)) rfl (ra_cons (hs := sn_name) (v 1) ra_nil)) (ra_cons (hs := sn_call) (re_call (hdb := (by decide)) (he := sn_name) (hpl := rfl) C__law_level hg (hr.mono (by decide)) rfl (ra_cel (i := 0) (hd := (by decide)) (hcd := (by decide)) (hs := sn_name) rfl (by first | exact Or.inl rfl | exact Or.inr (Or.inl rfl) | exact Or.inr (Or.inr rfl)) ra_nil)) ra_nil))))
  (rss_cons (rs_set (i := 4) (hs := rfl) (hf := (by first | exact Or.inl rfl | exact Or.inr rfl)) sc__law_joined_right.nd rfl (by first | exact Or.inl rfl | exact Or.inr rfl) (re_call (hdb := (by decide)) (he := sn_call) (hpl := rfl) C_times hg (hr.mono (by decide)) rfl (ra_cons (hs := sn_call) (re_call (hdb := (by decide)) (he := sn_name) (hpl := rfl) C_pure_light hg (hr.mono (by decide)) rfl (ra_cons (hs := sn_name) (v 2) ra_nil)) (ra_cons (hs := sn_call) (re_call (hdb := (by decide)) (he := sn_tup) (hpl := rfl) C__law_plus hg (hr.mono (by decide)) rfl (ra_cons (hs := sn_tup) (re_tup (ra_cons (hs := sn_const) re_int (ra_cons (hs := sn_const) re_int ra_nil))) (ra_cons (hs := sn_call) (re_call (hdb := (by decide)) (he := sn_name) (hpl := rfl) C__law_level hg (hr.mono (by decide)) rfl (ra_cel (i := 0) (hd := (by decide)) (hcd := (by decide)) (hs := sn_name) rfl (by first | exact Or.inl rfl | exact Or.inr (Or.inl rfl) | exact Or.inr (Or.inr rfl)) ra_nil)) ra_nil))) ra_nil))))
  (rss_cons (rs_set (i := 5) (hs := rfl) (hf := (by first | exact Or.inl rfl | exact Or.inr rfl)) sc__law_joined_right.nd rfl (by first | exact Or.inl rfl | exact Or.inr rfl) (re_call (hdb := (by decide)) (he := sn_name) (hpl := rfl) C_added hg (hr.mono (by decide)) rfl (ra_cons (hs := sn_name) (v 3) (ra_cons (hs := sn_name) (v 4) ra_nil))))
  (rss_cons (rs_if (rt_ne (hu64 hr) (re_repr (he := sn_call) hg (hu64 hr) rfl T.b_repr (ra_cons (hs := sn_call) (re_call (hdb := (by decide)) (he := sn_name) (hpl := rfl) C_split hg (hr.mono (by decide)) rfl (ra_cons (hs := sn_name) (v 5) (ra_cons (hs := sn_name) (v 1) ra_nil))) ra_nil)) (re_repr (he := sn_tup) hg (hu64 hr) rfl T.b_repr (ra_cons (hs := sn_tup) (re_tup (ra_cons (hs := sn_name) (v 3) (ra_cons (hs := sn_name) (v 4) ra_nil))) ra_nil))) (rss_one (rs_ret re_bl)) rss_nil)
  (rss_cons (rs_set (i := 6) (hs := rfl) (hf := (by first | exact Or.inl rfl | exact Or.inr rfl)) sc__law_joined_right.nd rfl (by first | exact Or.inl rfl | exact Or.inr rfl) (re_if (rt_gt (re_ix (hs := fun _ _ => rfl) (v 3) re_int) re_int) (re_tup (ra_cons (hs := sn_name) (v 4) (ra_cons (hs := sn_name) (v 3) ra_nil))) (re_tup (ra_cons (hs := sn_name) (v 4) (ra_cons (hs := sn_tup) (re_tup (ra_cons (hs := sn_const) re_int (ra_cons (hs := sn_const) re_int (ra_cons (hs := sn_const) re_int (ra_cons (hs := sn_const) re_int (ra_cons (hs := sn_const) re_int ra_nil)))))) ra_nil)))))
  (rss_one (rs_ret (re_eq (hu64 hr) (re_repr (he := sn_call) hg (hu64 hr) rfl T.b_repr (ra_cons (hs := sn_call) (re_call (hdb := (by decide)) (he := sn_name) (hpl := rfl) C_split hg (hr.mono (by decide)) rfl (ra_cons (hs := sn_name) (v 5) (ra_cons (hs := sn_name) (v 2) ra_nil))) ra_nil)) (re_repr (he := sn_name) hg (hu64 hr) rfl T.b_repr (ra_cons (hs := sn_name) (v 6) ra_nil))))))))))))
theorem ok__law_right {f : Addr} {fd : FuncData} (U : Fun K "_law_right" "_law_right" s__law_right f fd) (T : Tx K mg) (C__law_hue : At P w K mg base 3 "_law_hue" ["_law_tap_here"] F__law_hue) (C__law_joined_right : At P w K mg base 7 "_law_joined_right" ["_law_tap_here", "_law_hue_here"] F__law_joined_right) (C__law_level : At P w K mg base 4 "_law_level" ["_law_tap_here"] F__law_level) (C__law_plus : At P w K mg base 4 "_law_plus" ["_law_one", "_law_two"] F__law_plus) (C__law_shine : At P w K mg base 4 "_law_shine" ["_law_tap_here"] F__law_shine) (C__law_split_right : At P w K mg base 7 "_law_split_right" ["_law_shine_here", "_law_hue_here"] F__law_split_right) (C_kind_of : At P w K mg base 6 "kind_of" ["light"] F_kind_of) (C_split : At P w K mg base 6 "split" ["light", "kind"] F_split) (C_times : At P w K mg base 6 "times" ["light", "part"] F_times) : FnG P w K mg base 8 f fd ["_law_tap_here"] F__law_right_K06 := by
  refine fng_of (n0 := 1) (k := 7) U sc__law_right (fun cdv A outer s H E hg hr => ?_)
  exact (rss_cons (rs_par3 (i := 4) (j := 5) (l := 6) (ra_cons (hs := sn_call) (re_call (hdb := (by decide)) (he := sn_name) (hpl := rfl) C__law_shine hg (hr.mono (by decide)) rfl (ra_cel (i := 0) (hd := (by decide)) (hcd := (by decide)) (hs := sn_name) rfl (by first | exact Or.inl rfl | exact Or.inr (Or.inl rfl) | exact Or.inr (Or.inr rfl)) ra_nil)) (ra_cons (hs := sn_call) (re_call (hdb := (by decide)) (he := sn_name) (hpl := rfl) C__law_hue hg (hr.mono (by decide)) rfl (ra_cel (i := 0) (hd := (by decide)) (hcd := (by decide)) (hs := sn_name) rfl (by first | exact Or.inl rfl | exact Or.inr (Or.inl rfl) | exact Or.inr (Or.inr rfl)) ra_nil)) (ra_cons (hs := sn_call) (re_call (hdb := (by decide)) (he := sn_tup) (hpl := rfl) C__law_plus hg (hr.mono (by decide)) rfl (ra_cons (hs := sn_tup) (re_tup (ra_cons (hs := sn_const) re_int (ra_cons (hs := sn_const) re_int ra_nil))) (ra_cons (hs := sn_call) (re_call (hdb := (by decide)) (he := sn_name) (hpl := rfl) C__law_level hg (hr.mono (by decide)) rfl (ra_cel (i := 0) (hd := (by decide)) (hcd := (by decide)) (hs := sn_name) rfl (by first | exact Or.inl rfl | exact Or.inr (Or.inl rfl) | exact Or.inr (Or.inr rfl)) ra_nil)) ra_nil))) ra_nil))) (P := ps_par3 (by rfl) sc__law_right.nd rfl rfl rfl (by decide) (by decide) (by decide) rfl rfl rfl (pwA _) (by rfl)))
  (rss_cons (rs_set (i := 1) (hs := rfl) (hf := (by first | exact Or.inl rfl | exact Or.inr rfl)) sc__law_right.nd rfl (by first | exact Or.inl rfl | exact Or.inr rfl) (re_call (hdb := (by decide)) (he := sn_name) (hpl := rfl) C_kind_of hg (hr.mono (by decide)) rfl (ra_cons (hs := sn_name) (v 4) ra_nil)))
  (rss_cons (rs_set (i := 2) (hs := rfl) (hf := (by first | exact Or.inl rfl | exact Or.inr rfl)) sc__law_right.nd rfl (by first | exact Or.inl rfl | exact Or.inr rfl) (re_ofL (rl_lst (ra_cons (hs := sn_name) (v 5) (ra_cons (hs := sn_tup) (re_tup (ra_cons (hs := sn_const) re_int (ra_cons (hs := sn_const) re_int (ra_cons (hs := sn_un) (re_neg re_int) (ra_cons (hs := sn_const) re_int ra_nil))))) ra_nil)))))
  (rss_cons (rs_if (rt_notN (hm := nomark _) (v 1) re_non) (rss_one (rs_set (i := 2) (hs := rfl) (hf := (by first | exact Or.inl rfl | exact Or.inr rfl)) sc__law_right.nd rfl (by first | exact Or.inl rfl | exact Or.inr rfl) (re_plus (v 2) (re_ofL (rl_lst (ra_cons (hs := sn_name) (v 1) (ra_cons (hs := sn_tup) (re_tup (ra_cons (hs := sn_bin) (re_sub re_int (re_ix (hs := fun _ _ => rfl) (v 1) re_int)) (ra_cons (hs := sn_bin) (re_sub re_int (re_ix (hs := fun _ _ => rfl) (v 1) re_int)) (ra_cons (hs := sn_bin) (re_sub re_int (re_ix (hs := fun _ _ => rfl) (v 1) re_int)) (ra_cons (hs := sn_sub) (re_ix (hs := fun _ _ => rfl) (v 1) re_int) ra_nil))))) ra_nil))))))) rss_nil)
  (rss_cons (rs_for (hs := fun _ => rfl) PassesOwn.never rfl (ri_seq (v 2)) (rg_name (i := 3) sc__law_right.nd rfl (by first | exact Or.inl rfl | exact Or.inr rfl)) (fun _ => (rss_cons (rs_if (rt_not (rt_val (he := fun _ => rfl) (re_call (hdb := (by decide)) (he := sn_name) (hpl := rfl) C__law_split_right hg (hr.mono (by decide)) rfl (ra_cons (hs := sn_name) (v 4) (ra_cons (hs := sn_name) (v 3) ra_nil))))) (rss_one (rs_ret re_bl)) rss_nil)
  (rss_cons (rs_set (i := 7) (hs := rfl) (hf := (by first | exact Or.inl rfl | exact Or.inr rfl)) sc__law_right.nd rfl (by first | exact Or.inl rfl | exact Or.inr rfl) (re_call (hdb := (by decide)) (he := sn_name) (hpl := rfl) C_split hg (hr.mono (by decide)) rfl (ra_cons (hs := sn_name) (v 4) (ra_cons (hs := sn_name) (v 3) ra_nil))))
  (rss_one (rs_if (rt_ne (hu64 hr) (re_repr (he := sn_call) hg (hu64 hr) rfl T.b_repr (ra_cons (hs := sn_call) (re_call (hdb := (by decide)) (he := sn_call) (hpl := rfl) C_split hg (hr.mono (by decide)) rfl (ra_cons (hs := sn_call) (re_call (hdb := (by decide)) (he := sn_name) (hpl := rfl) C_times hg (hr.mono (by decide)) rfl (ra_cons (hs := sn_name) (v 4) (ra_cons (hs := sn_name) (v 6) ra_nil))) (ra_cons (hs := sn_name) (v 3) ra_nil))) ra_nil)) (re_repr (he := sn_tup) hg (hu64 hr) rfl T.b_repr (ra_cons (hs := sn_tup) (re_tup (ra_cons (hs := sn_call) (re_call (hdb := (by decide)) (he := sn_sub) (hpl := rfl) C_times hg (hr.mono (by decide)) rfl (ra_cons (hs := sn_sub) (re_ix (hs := fun _ _ => rfl) (v 7) re_int) (ra_cons (hs := sn_name) (v 6) ra_nil))) (ra_cons (hs := sn_call) (re_call (hdb := (by decide)) (he := sn_sub) (hpl := rfl) C_times hg (hr.mono (by decide)) rfl (ra_cons (hs := sn_sub) (re_ix (hs := fun _ _ => rfl) (v 7) re_int) (ra_cons (hs := sn_name) (v 6) ra_nil))) ra_nil))) ra_nil))) (rss_one (rs_ret re_bl)) rss_nil))))))
  (rss_cons (rs_if (rt_w (rw_or (rt_not (rt_val (he := fun _ => rfl) (re_call (hdb := (by decide)) (he := sn_tup) (hpl := rfl) C__law_split_right hg (hr.mono (by decide)) rfl (ra_cons (hs := sn_tup) (re_tup (ra_cons (hs := sn_const) re_int (ra_cons (hs := sn_const) re_int (ra_cons (hs := sn_const) re_int (ra_cons (hs := sn_const) re_int (ra_cons (hs := sn_const) re_int ra_nil)))))) (ra_cons (hs := sn_name) (v 5) ra_nil))))) (rw_or1 (rt_not (rt_val (he := fun _ => rfl) (re_call (hdb := (by decide)) (he := sn_name) (hpl := rfl) C__law_joined_right hg (hr.mono (by decide)) rfl (ra_cel (i := 0) (hd := (by decide)) (hcd := (by decide)) (hs := sn_name) rfl (by first | exact Or.inl rfl | exact Or.inr (Or.inl rfl) | exact Or.inr (Or.inr rfl)) (ra_cons (hs := sn_name) (v 5) ra_nil)))))))) (rss_one (rs_ret re_bl)) rss_nil)
  (rss_one (rs_ret (re_call (hdb := (by decide)) (he := sn_name) (hpl := rfl) C__law_joined_right hg (hr.mono (by decide)) rfl (ra_cel (i := 0) (hd := (by decide)) (hcd := (by decide)) (hs := sn_name) rfl (by first | exact Or.inl rfl | exact Or.inr (Or.inl rfl) | exact Or.inr (Or.inr rfl)) (ra_cons (hs := sn_sub) (re_ix (hs := fun _ _ => rfl) (v 2) (re_neg re_int)) ra_nil)))))))))))
theorem ok_law {f : Addr} {fd : FuncData} (U : Fun K "law" "law" s_law f fd) (T : Tx K mg) (C__law_right : At P w K mg base 8 "_law_right" ["_law_tap_here"] F__law_right_K06) (C__law_tap : At P w K mg base 1 "_law_tap" ["_law_script", "_law_turn"] F__law_tap) (C__law_turns : At P w K mg base 1 "_law_turns" ["_law_script", "_law_most"] F__law_turns) : FnG P w K mg base 9 f fd ["_law_script"] F_law_K06 := by
  refine fng_of (n0 := 0) (k := 8) U sc_law (fun cdv A outer s H E hg hr => ?_)
  exact (rss_one (rs_ret (re_all (he := sn_lc) rfl rfl T.b_all (ra_cons (hs := sn_lc) (re_ofL (rl_lc (own := [("_law_turn", 1)]) (hs := fun _ => rfl) rfl sc_law.nd (ri_range1 (hs := rfl) rfl T.b_range (ra_cons (hs := sn_call) (re_call (hdb := (by decide)) (he := sn_name) (hpl := rfl) C__law_turns hg (hr.mono (by decide)) rfl (ra_cons (hs := sn_name) (v 0) (ra_cons (hs := sn_const) re_int ra_nil))) ra_nil)) (blkOk_by (N := n_law) (sc := defScope s_law) (by decide +kernel)) (fun _ _ _ _ _ => (rg_name (i := 1) sc_law.nd rfl (by first | exact Or.inl rfl | exact Or.inr rfl))) (fun _ _ _ _ _ => rts_nil) (fun _ _ _ _ _ => (re_callFr (hdb := (by decide)) (he := sn_call) (hpl := rfl) C__law_right hg (hr.mono (by decide)) rfl (rl_call (hdb := (by decide)) (he := sn_name) (hpl := rfl) C__law_tap hg (hr.mono (by decide)) rfl (ra_cons (hs := sn_name) (v 0) (ra_cons (hs := sn_name) (v 1) ra_nil))))) (by decide))) ra_nil))))
end K06


set_option Elab.async false
set_option linter.all false
set_option maxRecDepth 100000
set_option maxHeartbeats 400000
namespace K06
open PySem PySem.Spec L2 DL
open PyProof.Rows hiding St
open PL
theorem bk_is_whole {kV doc pm : Value} {an : Option Addr} {cdv ct : Value} (us : List Value) (hl : us.length = ["value"].length) (i : Nat) (hi : i ≤ (["value"] : List Str).length) : bindArgs (PySem.W.fnOf "is_whole" "is_whole" (defArgs s_is_whole) (defBody s_is_whole) (defScope s_is_whole) .none kV doc pm an cdv ct) ⟨us.take i, ((["value"] : List Str).drop i).zip (us.drop i)⟩ = pure ((["value"] : List Str).zip us) := by
  match us, hl with
  | [_], _ => match i, hi with
    | 0, _ => rfl
    | 1, _ => rfl
    | k + 2, h => exact absurd h (by simp only [List.length_cons, List.length_nil]; omega)
theorem bk_is_row {kV doc pm : Value} {an : Option Addr} {cdv ct : Value} (us : List Value) (hl : us.length = ["value", "many"].length) (i : Nat) (hi : i ≤ (["value", "many"] : List Str).length) : bindArgs (PySem.W.fnOf "is_row" "is_row" (defArgs s_is_row) (defBody s_is_row) (defScope s_is_row) .none kV doc pm an cdv ct) ⟨us.take i, ((["value", "many"] : List Str).drop i).zip (us.drop i)⟩ = pure ((["value", "many"] : List Str).zip us) := by
  match us, hl with
  | [_, _], _ => match i, hi with
    | 0, _ => rfl
    | 1, _ => rfl
    | 2, _ => rfl
    | k + 3, h => exact absurd h (by simp only [List.length_cons, List.length_nil]; omega)
theorem bk_divisor_of {kV doc pm : Value} {an : Option Addr} {cdv ct : Value} (us : List Value) (hl : us.length = ["numbers"].length) (i : Nat) (hi : i ≤ (["numbers"] : List Str).length) : bindArgs (PySem.W.fnOf "divisor_of" "divisor_of" (defArgs s_divisor_of) (defBody s_divisor_of) (defScope s_divisor_of) .none kV doc pm an cdv ct) ⟨us.take i, ((["numbers"] : List Str).drop i).zip (us.drop i)⟩ = pure ((["numbers"] : List Str).zip us) := by
  match us, hl with
  | [_], _ => match i, hi with
    | 0, _ => rfl
    | 1, _ => rfl
    | k + 2, h => exact absurd h (by simp only [List.length_cons, List.length_nil]; omega)
theorem bk_is_reduced_row {kV doc pm : Value} {an : Option Addr} {cdv ct : Value} (us : List Value) (hl : us.length = ["value", "many"].length) (i : Nat) (hi : i ≤ (["value", "many"] : List Str).length) : bindArgs (PySem.W.fnOf "is_reduced_row" "is_reduced_row" (defArgs s_is_reduced_row) (defBody s_is_reduced_row) (defScope s_is_reduced_row) .none kV doc pm an cdv ct) ⟨us.take i, ((["value", "many"] : List Str).drop i).zip (us.drop i)⟩ = pure ((["value", "many"] : List Str).zip us) := by
  match us, hl with
  | [_, _], _ => match i, hi with
    | 0, _ => rfl
    | 1, _ => rfl
    | 2, _ => rfl
    | k + 3, h => exact absurd h (by simp only [List.length_cons, List.length_nil]; omega)
theorem bk_reduced {kV doc pm : Value} {an : Option Addr} {cdv ct : Value} (us : List Value) (hl : us.length = ["numbers"].length) (i : Nat) (hi : i ≤ (["numbers"] : List Str).length) : bindArgs (PySem.W.fnOf "reduced" "reduced" (defArgs s_reduced) (defBody s_reduced) (defScope s_reduced) .none kV doc pm an cdv ct) ⟨us.take i, ((["numbers"] : List Str).drop i).zip (us.drop i)⟩ = pure ((["numbers"] : List Str).zip us) := by
  match us, hl with
  | [_], _ => match i, hi with
    | 0, _ => rfl
    | 1, _ => rfl
    | k + 2, h => exact absurd h (by simp only [List.length_cons, List.length_nil]; omega)
theorem bk_dot {kV doc pm : Value} {an : Option Addr} {cdv ct : Value} (us : List Value) (hl : us.length = ["row", "other"].length) (i : Nat) (hi : i ≤ (["row", "other"] : List Str).length) : bindArgs (PySem.W.fnOf "dot" "dot" (defArgs s_dot) (defBody s_dot) (defScope s_dot) .none kV doc pm an cdv ct) ⟨us.take i, ((["row", "other"] : List Str).drop i).zip (us.drop i)⟩ = pure ((["row", "other"] : List Str).zip us) := by
  match us, hl with
  | [_, _], _ => match i, hi with
    | 0, _ => rfl
    | 1, _ => rfl
    | 2, _ => rfl
    | k + 3, h => exact absurd h (by simp only [List.length_cons, List.length_nil]; omega)
theorem bk_combined {kV doc pm : Value} {an : Option Addr} {cdv ct : Value} (us : List Value) (hl : us.length = ["one", "row", "two", "other"].length) (i : Nat) (hi : i ≤ (["one", "row", "two", "other"] : List Str).length) : bindArgs (PySem.W.fnOf "combined" "combined" (defArgs s_combined) (defBody s_combined) (defScope s_combined) .none kV doc pm an cdv ct) ⟨us.take i, ((["one", "row", "two", "other"] : List Str).drop i).zip (us.drop i)⟩ = pure ((["one", "row", "two", "other"] : List Str).zip us) := by
  match us, hl with
  | [_, _, _, _], _ => match i, hi with
    | 0, _ => rfl
    | 1, _ => rfl
    | 2, _ => rfl
    | 3, _ => rfl
    | 4, _ => rfl
    | k + 5, h => exact absurd h (by simp only [List.length_cons, List.length_nil]; omega)
theorem bk_ratio {kV doc pm : Value} {an : Option Addr} {cdv ct : Value} (us : List Value) (hl : us.length = ["p", "q"].length) (i : Nat) (hi : i ≤ (["p", "q"] : List Str).length) : bindArgs (PySem.W.fnOf "ratio" "ratio" (defArgs s_ratio) (defBody s_ratio) (defScope s_ratio) .none kV doc pm an cdv ct) ⟨us.take i, ((["p", "q"] : List Str).drop i).zip (us.drop i)⟩ = pure ((["p", "q"] : List Str).zip us) := by
  match us, hl with
  | [_, _], _ => match i, hi with
    | 0, _ => rfl
    | 1, _ => rfl
    | 2, _ => rfl
    | k + 3, h => exact absurd h (by simp only [List.length_cons, List.length_nil]; omega)
theorem bk_is_fraction {kV doc pm : Value} {an : Option Addr} {cdv ct : Value} (us : List Value) (hl : us.length = ["value"].length) (i : Nat) (hi : i ≤ (["value"] : List Str).length) : bindArgs (PySem.W.fnOf "is_fraction" "is_fraction" (defArgs s_is_fraction) (defBody s_is_fraction) (defScope s_is_fraction) .none kV doc pm an cdv ct) ⟨us.take i, ((["value"] : List Str).drop i).zip (us.drop i)⟩ = pure ((["value"] : List Str).zip us) := by
  match us, hl with
  | [_], _ => match i, hi with
    | 0, _ => rfl
    | 1, _ => rfl
    | k + 2, h => exact absurd h (by simp only [List.length_cons, List.length_nil]; omega)
theorem bk_check_positive_fraction {kV doc pm : Value} {an : Option Addr} {cdv ct : Value} (us : List Value) (hl : us.length = ["value"].length) (i : Nat) (hi : i ≤ (["value"] : List Str).length) : bindArgs (PySem.W.fnOf "check_positive_fraction" "check_positive_fraction" (defArgs s_check_positive_fraction) (defBody s_check_positive_fraction) (defScope s_check_positive_fraction) .none kV doc pm an cdv ct) ⟨us.take i, ((["value"] : List Str).drop i).zip (us.drop i)⟩ = pure ((["value"] : List Str).zip us) := by
  match us, hl with
  | [_], _ => match i, hi with
    | 0, _ => rfl
    | 1, _ => rfl
    | k + 2, h => exact absurd h (by simp only [List.length_cons, List.length_nil]; omega)
theorem bk_crossed {kV doc pm : Value} {an : Option Addr} {cdv ct : Value} (us : List Value) (hl : us.length = ["row", "other"].length) (i : Nat) (hi : i ≤ (["row", "other"] : List Str).length) : bindArgs (PySem.W.fnOf "crossed" "crossed" (defArgs s_crossed) (defBody s_crossed) (defScope s_crossed) .none kV doc pm an cdv ct) ⟨us.take i, ((["row", "other"] : List Str).drop i).zip (us.drop i)⟩ = pure ((["row", "other"] : List Str).zip us) := by
  match us, hl with
  | [_, _], _ => match i, hi with
    | 0, _ => rfl
    | 1, _ => rfl
    | 2, _ => rfl
    | k + 3, h => exact absurd h (by simp only [List.length_cons, List.length_nil]; omega)
theorem bk_in_cone {kV doc pm : Value} {an : Option Addr} {cdv ct : Value} (us : List Value) (hl : us.length = ["row"].length) (i : Nat) (hi : i ≤ (["row"] : List Str).length) : bindArgs (PySem.W.fnOf "in_cone" "in_cone" (defArgs s_in_cone) (defBody s_in_cone) (defScope s_in_cone) .none kV doc pm an cdv ct) ⟨us.take i, ((["row"] : List Str).drop i).zip (us.drop i)⟩ = pure ((["row"] : List Str).zip us) := by
  match us, hl with
  | [_], _ => match i, hi with
    | 0, _ => rfl
    | 1, _ => rfl
    | k + 2, h => exact absurd h (by simp only [List.length_cons, List.length_nil]; omega)
theorem bk_is_light {kV doc pm : Value} {an : Option Addr} {cdv ct : Value} (us : List Value) (hl : us.length = ["value"].length) (i : Nat) (hi : i ≤ (["value"] : List Str).length) : bindArgs (PySem.W.fnOf "is_light" "is_light" (defArgs s_is_light) (defBody s_is_light) (defScope s_is_light) .none kV doc pm an cdv ct) ⟨us.take i, ((["value"] : List Str).drop i).zip (us.drop i)⟩ = pure ((["value"] : List Str).zip us) := by
  match us, hl with
  | [_], _ => match i, hi with
    | 0, _ => rfl
    | 1, _ => rfl
    | k + 2, h => exact absurd h (by simp only [List.length_cons, List.length_nil]; omega)
theorem bk_is_kind {kV doc pm : Value} {an : Option Addr} {cdv ct : Value} (us : List Value) (hl : us.length = ["value"].length) (i : Nat) (hi : i ≤ (["value"] : List Str).length) : bindArgs (PySem.W.fnOf "is_kind" "is_kind" (defArgs s_is_kind) (defBody s_is_kind) (defScope s_is_kind) .none kV doc pm an cdv ct) ⟨us.take i, ((["value"] : List Str).drop i).zip (us.drop i)⟩ = pure ((["value"] : List Str).zip us) := by
  match us, hl with
  | [_], _ => match i, hi with
    | 0, _ => rfl
    | 1, _ => rfl
    | k + 2, h => exact absurd h (by simp only [List.length_cons, List.length_nil]; omega)
theorem bk_check_light {kV doc pm : Value} {an : Option Addr} {cdv ct : Value} (us : List Value) (hl : us.length = ["value"].length) (i : Nat) (hi : i ≤ (["value"] : List Str).length) : bindArgs (PySem.W.fnOf "check_light" "check_light" (defArgs s_check_light) (defBody s_check_light) (defScope s_check_light) .none kV doc pm an cdv ct) ⟨us.take i, ((["value"] : List Str).drop i).zip (us.drop i)⟩ = pure ((["value"] : List Str).zip us) := by
  match us, hl with
  | [_], _ => match i, hi with
    | 0, _ => rfl
    | 1, _ => rfl
    | k + 2, h => exact absurd h (by simp only [List.length_cons, List.length_nil]; omega)
theorem bk_check_kind {kV doc pm : Value} {an : Option Addr} {cdv ct : Value} (us : List Value) (hl : us.length = ["value"].length) (i : Nat) (hi : i ≤ (["value"] : List Str).length) : bindArgs (PySem.W.fnOf "check_kind" "check_kind" (defArgs s_check_kind) (defBody s_check_kind) (defScope s_check_kind) .none kV doc pm an cdv ct) ⟨us.take i, ((["value"] : List Str).drop i).zip (us.drop i)⟩ = pure ((["value"] : List Str).zip us) := by
  match us, hl with
  | [_], _ => match i, hi with
    | 0, _ => rfl
    | 1, _ => rfl
    | k + 2, h => exact absurd h (by simp only [List.length_cons, List.length_nil]; omega)
theorem bk_added {kV doc pm : Value} {an : Option Addr} {cdv ct : Value} (us : List Value) (hl : us.length = ["light", "other"].length) (i : Nat) (hi : i ≤ (["light", "other"] : List Str).length) : bindArgs (PySem.W.fnOf "added" "added" (defArgs s_added) (defBody s_added) (defScope s_added) .none kV doc pm an cdv ct) ⟨us.take i, ((["light", "other"] : List Str).drop i).zip (us.drop i)⟩ = pure ((["light", "other"] : List Str).zip us) := by
  match us, hl with
  | [_, _], _ => match i, hi with
    | 0, _ => rfl
    | 1, _ => rfl
    | 2, _ => rfl
    | k + 3, h => exact absurd h (by simp only [List.length_cons, List.length_nil]; omega)
theorem bk_times {kV doc pm : Value} {an : Option Addr} {cdv ct : Value} (us : List Value) (hl : us.length = ["light", "part"].length) (i : Nat) (hi : i ≤ (["light", "part"] : List Str).length) : bindArgs (PySem.W.fnOf "times" "times" (defArgs s_times) (defBody s_times) (defScope s_times) .none kV doc pm an cdv ct) ⟨us.take i, ((["light", "part"] : List Str).drop i).zip (us.drop i)⟩ = pure ((["light", "part"] : List Str).zip us) := by
  match us, hl with
  | [_, _], _ => match i, hi with
    | 0, _ => rfl
    | 1, _ => rfl
    | 2, _ => rfl
    | k + 3, h => exact absurd h (by simp only [List.length_cons, List.length_nil]; omega)
theorem bk_kind_of {kV doc pm : Value} {an : Option Addr} {cdv ct : Value} (us : List Value) (hl : us.length = ["light"].length) (i : Nat) (hi : i ≤ (["light"] : List Str).length) : bindArgs (PySem.W.fnOf "kind_of" "kind_of" (defArgs s_kind_of) (defBody s_kind_of) (defScope s_kind_of) .none kV doc pm an cdv ct) ⟨us.take i, ((["light"] : List Str).drop i).zip (us.drop i)⟩ = pure ((["light"] : List Str).zip us) := by
  match us, hl with
  | [_], _ => match i, hi with
    | 0, _ => rfl
    | 1, _ => rfl
    | k + 2, h => exact absurd h (by simp only [List.length_cons, List.length_nil]; omega)
theorem bk_pure_light {kV doc pm : Value} {an : Option Addr} {cdv ct : Value} (us : List Value) (hl : us.length = ["kind"].length) (i : Nat) (hi : i ≤ (["kind"] : List Str).length) : bindArgs (PySem.W.fnOf "pure_light" "pure_light" (defArgs s_pure_light) (defBody s_pure_light) (defScope s_pure_light) .none kV doc pm an cdv ct) ⟨us.take i, ((["kind"] : List Str).drop i).zip (us.drop i)⟩ = pure ((["kind"] : List Str).zip us) := by
  match us, hl with
  | [_], _ => match i, hi with
    | 0, _ => rfl
    | 1, _ => rfl
    | k + 2, h => exact absurd h (by simp only [List.length_cons, List.length_nil]; omega)
theorem bk_product {kV doc pm : Value} {an : Option Addr} {cdv ct : Value} (us : List Value) (hl : us.length = ["light", "other"].length) (i : Nat) (hi : i ≤ (["light", "other"] : List Str).length) : bindArgs (PySem.W.fnOf "product" "product" (defArgs s_product) (defBody s_product) (defScope s_product) .none kV doc pm an cdv ct) ⟨us.take i, ((["light", "other"] : List Str).drop i).zip (us.drop i)⟩ = pure ((["light", "other"] : List Str).zip us) := by
  match us, hl with
  | [_, _], _ => match i, hi with
    | 0, _ => rfl
    | 1, _ => rfl
    | 2, _ => rfl
    | k + 3, h => exact absurd h (by simp only [List.length_cons, List.length_nil]; omega)
theorem bk_split {kV doc pm : Value} {an : Option Addr} {cdv ct : Value} (us : List Value) (hl : us.length = ["light", "kind"].length) (i : Nat) (hi : i ≤ (["light", "kind"] : List Str).length) : bindArgs (PySem.W.fnOf "split" "split" (defArgs s_split) (defBody s_split) (defScope s_split) .none kV doc pm an cdv ct) ⟨us.take i, ((["light", "kind"] : List Str).drop i).zip (us.drop i)⟩ = pure ((["light", "kind"] : List Str).zip us) := by
  match us, hl with
  | [_, _], _ => match i, hi with
    | 0, _ => rfl
    | 1, _ => rfl
    | 2, _ => rfl
    | k + 3, h => exact absurd h (by simp only [List.length_cons, List.length_nil]; omega)
theorem bk__law_tap {kV doc pm : Value} {an : Option Addr} {cdv ct : Value} (us : List Value) (hl : us.length = ["_law_script", "_law_turn"].length) (i : Nat) (hi : i ≤ (["_law_script", "_law_turn"] : List Str).length) : bindArgs (PySem.W.fnOf "_law_tap" "_law_tap" (defArgs s__law_tap) (defBody s__law_tap) (defScope s__law_tap) .none kV doc pm an cdv ct) ⟨us.take i, ((["_law_script", "_law_turn"] : List Str).drop i).zip (us.drop i)⟩ = pure ((["_law_script", "_law_turn"] : List Str).zip us) := by
  match us, hl with
  | [_, _], _ => match i, hi with
    | 0, _ => rfl
    | 1, _ => rfl
    | 2, _ => rfl
    | k + 3, h => exact absurd h (by simp only [List.length_cons, List.length_nil]; omega)
theorem bk__law_from {kV doc pm : Value} {an : Option Addr} {cdv ct : Value} (us : List Value) (hl : us.length = ["_law_tap_here", "_law_many"].length) (i : Nat) (hi : i ≤ (["_law_tap_here", "_law_many"] : List Str).length) : bindArgs (PySem.W.fnOf "_law_from" "_law_from" (defArgs s__law_from) (defBody s__law_from) (defScope s__law_from) .none kV doc pm an cdv ct) ⟨us.take i, ((["_law_tap_here", "_law_many"] : List Str).drop i).zip (us.drop i)⟩ = pure ((["_law_tap_here", "_law_many"] : List Str).zip us) := by
  match us, hl with
  | [_, _], _ => match i, hi with
    | 0, _ => rfl
    | 1, _ => rfl
    | 2, _ => rfl
    | k + 3, h => exact absurd h (by simp only [List.length_cons, List.length_nil]; omega)
theorem bk__law_turns {kV doc pm : Value} {an : Option Addr} {cdv ct : Value} (us : List Value) (hl : us.length = ["_law_script", "_law_most"].length) (i : Nat) (hi : i ≤ (["_law_script", "_law_most"] : List Str).length) : bindArgs (PySem.W.fnOf "_law_turns" "_law_turns" (defArgs s__law_turns) (defBody s__law_turns) (defScope s__law_turns) .none kV doc pm an cdv ct) ⟨us.take i, ((["_law_script", "_law_most"] : List Str).drop i).zip (us.drop i)⟩ = pure ((["_law_script", "_law_most"] : List Str).zip us) := by
  match us, hl with
  | [_, _], _ => match i, hi with
    | 0, _ => rfl
    | 1, _ => rfl
    | 2, _ => rfl
    | k + 3, h => exact absurd h (by simp only [List.length_cons, List.length_nil]; omega)
theorem bk__law_pick {kV doc pm : Value} {an : Option Addr} {cdv ct : Value} (us : List Value) (hl : us.length = ["_law_tap_here", "_law_some"].length) (i : Nat) (hi : i ≤ (["_law_tap_here", "_law_some"] : List Str).length) : bindArgs (PySem.W.fnOf "_law_pick" "_law_pick" (defArgs s__law_pick) (defBody s__law_pick) (defScope s__law_pick) .none kV doc pm an cdv ct) ⟨us.take i, ((["_law_tap_here", "_law_some"] : List Str).drop i).zip (us.drop i)⟩ = pure ((["_law_tap_here", "_law_some"] : List Str).zip us) := by
  match us, hl with
  | [_, _], _ => match i, hi with
    | 0, _ => rfl
    | 1, _ => rfl
    | 2, _ => rfl
    | k + 3, h => exact absurd h (by simp only [List.length_cons, List.length_nil]; omega)
theorem bk__law_low {kV doc pm : Value} {an : Option Addr} {cdv ct : Value} (us : List Value) (hl : us.length = ["_law_tap_here"].length) (i : Nat) (hi : i ≤ (["_law_tap_here"] : List Str).length) : bindArgs (PySem.W.fnOf "_law_low" "_law_low" (defArgs s__law_low) (defBody s__law_low) (defScope s__law_low) .none kV doc pm an cdv ct) ⟨us.take i, ((["_law_tap_here"] : List Str).drop i).zip (us.drop i)⟩ = pure ((["_law_tap_here"] : List Str).zip us) := by
  match us, hl with
  | [_], _ => match i, hi with
    | 0, _ => rfl
    | 1, _ => rfl
    | k + 2, h => exact absurd h (by simp only [List.length_cons, List.length_nil]; omega)
theorem bk__law_common {kV doc pm : Value} {an : Option Addr} {cdv ct : Value} (us : List Value) (hl : us.length = ["_law_numbers"].length) (i : Nat) (hi : i ≤ (["_law_numbers"] : List Str).length) : bindArgs (PySem.W.fnOf "_law_common" "_law_common" (defArgs s__law_common) (defBody s__law_common) (defScope s__law_common) .none kV doc pm an cdv ct) ⟨us.take i, ((["_law_numbers"] : List Str).drop i).zip (us.drop i)⟩ = pure ((["_law_numbers"] : List Str).zip us) := by
  match us, hl with
  | [_], _ => match i, hi with
    | 0, _ => rfl
    | 1, _ => rfl
    | k + 2, h => exact absurd h (by simp only [List.length_cons, List.length_nil]; omega)
theorem bk__law_least {kV doc pm : Value} {an : Option Addr} {cdv ct : Value} (us : List Value) (hl : us.length = ["_law_numbers"].length) (i : Nat) (hi : i ≤ (["_law_numbers"] : List Str).length) : bindArgs (PySem.W.fnOf "_law_least" "_law_least" (defArgs s__law_least) (defBody s__law_least) (defScope s__law_least) .none kV doc pm an cdv ct) ⟨us.take i, ((["_law_numbers"] : List Str).drop i).zip (us.drop i)⟩ = pure ((["_law_numbers"] : List Str).zip us) := by
  match us, hl with
  | [_], _ => match i, hi with
    | 0, _ => rfl
    | 1, _ => rfl
    | k + 2, h => exact absurd h (by simp only [List.length_cons, List.length_nil]; omega)
theorem bk__law_ratio {kV doc pm : Value} {an : Option Addr} {cdv ct : Value} (us : List Value) (hl : us.length = ["_law_p", "_law_q"].length) (i : Nat) (hi : i ≤ (["_law_p", "_law_q"] : List Str).length) : bindArgs (PySem.W.fnOf "_law_ratio" "_law_ratio" (defArgs s__law_ratio) (defBody s__law_ratio) (defScope s__law_ratio) .none kV doc pm an cdv ct) ⟨us.take i, ((["_law_p", "_law_q"] : List Str).drop i).zip (us.drop i)⟩ = pure ((["_law_p", "_law_q"] : List Str).zip us) := by
  match us, hl with
  | [_, _], _ => match i, hi with
    | 0, _ => rfl
    | 1, _ => rfl
    | 2, _ => rfl
    | k + 3, h => exact absurd h (by simp only [List.length_cons, List.length_nil]; omega)
theorem bk__law_plus {kV doc pm : Value} {an : Option Addr} {cdv ct : Value} (us : List Value) (hl : us.length = ["_law_one", "_law_two"].length) (i : Nat) (hi : i ≤ (["_law_one", "_law_two"] : List Str).length) : bindArgs (PySem.W.fnOf "_law_plus" "_law_plus" (defArgs s__law_plus) (defBody s__law_plus) (defScope s__law_plus) .none kV doc pm an cdv ct) ⟨us.take i, ((["_law_one", "_law_two"] : List Str).drop i).zip (us.drop i)⟩ = pure ((["_law_one", "_law_two"] : List Str).zip us) := by
  match us, hl with
  | [_, _], _ => match i, hi with
    | 0, _ => rfl
    | 1, _ => rfl
    | 2, _ => rfl
    | k + 3, h => exact absurd h (by simp only [List.length_cons, List.length_nil]; omega)
theorem bk__law_by {kV doc pm : Value} {an : Option Addr} {cdv ct : Value} (us : List Value) (hl : us.length = ["_law_one", "_law_two"].length) (i : Nat) (hi : i ≤ (["_law_one", "_law_two"] : List Str).length) : bindArgs (PySem.W.fnOf "_law_by" "_law_by" (defArgs s__law_by) (defBody s__law_by) (defScope s__law_by) .none kV doc pm an cdv ct) ⟨us.take i, ((["_law_one", "_law_two"] : List Str).drop i).zip (us.drop i)⟩ = pure ((["_law_one", "_law_two"] : List Str).zip us) := by
  match us, hl with
  | [_, _], _ => match i, hi with
    | 0, _ => rfl
    | 1, _ => rfl
    | 2, _ => rfl
    | k + 3, h => exact absurd h (by simp only [List.length_cons, List.length_nil]; omega)
theorem bk__law_root {kV doc pm : Value} {an : Option Addr} {cdv ct : Value} (us : List Value) (hl : us.length = ["_law_number"].length) (i : Nat) (hi : i ≤ (["_law_number"] : List Str).length) : bindArgs (PySem.W.fnOf "_law_root" "_law_root" (defArgs s__law_root) (defBody s__law_root) (defScope s__law_root) .none kV doc pm an cdv ct) ⟨us.take i, ((["_law_number"] : List Str).drop i).zip (us.drop i)⟩ = pure ((["_law_number"] : List Str).zip us) := by
  match us, hl with
  | [_], _ => match i, hi with
    | 0, _ => rfl
    | 1, _ => rfl
    | k + 2, h => exact absurd h (by simp only [List.length_cons, List.length_nil]; omega)
theorem bk__law_are_whole {kV doc pm : Value} {an : Option Addr} {cdv ct : Value} (us : List Value) (hl : us.length = ["_law_told"].length) (i : Nat) (hi : i ≤ (["_law_told"] : List Str).length) : bindArgs (PySem.W.fnOf "_law_are_whole" "_law_are_whole" (defArgs s__law_are_whole) (defBody s__law_are_whole) (defScope s__law_are_whole) .none kV doc pm an cdv ct) ⟨us.take i, ((["_law_told"] : List Str).drop i).zip (us.drop i)⟩ = pure ((["_law_told"] : List Str).zip us) := by
  match us, hl with
  | [_], _ => match i, hi with
    | 0, _ => rfl
    | 1, _ => rfl
    | k + 2, h => exact absurd h (by simp only [List.length_cons, List.length_nil]; omega)
theorem bk__law_is_row {kV doc pm : Value} {an : Option Addr} {cdv ct : Value} (us : List Value) (hl : us.length = ["_law_told", "_law_many"].length) (i : Nat) (hi : i ≤ (["_law_told", "_law_many"] : List Str).length) : bindArgs (PySem.W.fnOf "_law_is_row" "_law_is_row" (defArgs s__law_is_row) (defBody s__law_is_row) (defScope s__law_is_row) .none kV doc pm an cdv ct) ⟨us.take i, ((["_law_told", "_law_many"] : List Str).drop i).zip (us.drop i)⟩ = pure ((["_law_told", "_law_many"] : List Str).zip us) := by
  match us, hl with
  | [_, _], _ => match i, hi with
    | 0, _ => rfl
    | 1, _ => rfl
    | 2, _ => rfl
    | k + 3, h => exact absurd h (by simp only [List.length_cons, List.length_nil]; omega)
theorem bk__law_cone {kV doc pm : Value} {an : Option Addr} {cdv ct : Value} (us : List Value) (hl : us.length = ["_law_numbers"].length) (i : Nat) (hi : i ≤ (["_law_numbers"] : List Str).length) : bindArgs (PySem.W.fnOf "_law_cone" "_law_cone" (defArgs s__law_cone) (defBody s__law_cone) (defScope s__law_cone) .none kV doc pm an cdv ct) ⟨us.take i, ((["_law_numbers"] : List Str).drop i).zip (us.drop i)⟩ = pure ((["_law_numbers"] : List Str).zip us) := by
  match us, hl with
  | [_], _ => match i, hi with
    | 0, _ => rfl
    | 1, _ => rfl
    | k + 2, h => exact absurd h (by simp only [List.length_cons, List.length_nil]; omega)
theorem bk__law_is_shine {kV doc pm : Value} {an : Option Addr} {cdv ct : Value} (us : List Value) (hl : us.length = ["_law_told"].length) (i : Nat) (hi : i ≤ (["_law_told"] : List Str).length) : bindArgs (PySem.W.fnOf "_law_is_shine" "_law_is_shine" (defArgs s__law_is_shine) (defBody s__law_is_shine) (defScope s__law_is_shine) .none kV doc pm an cdv ct) ⟨us.take i, ((["_law_told"] : List Str).drop i).zip (us.drop i)⟩ = pure ((["_law_told"] : List Str).zip us) := by
  match us, hl with
  | [_], _ => match i, hi with
    | 0, _ => rfl
    | 1, _ => rfl
    | k + 2, h => exact absurd h (by simp only [List.length_cons, List.length_nil]; omega)
theorem bk__law_dot {kV doc pm : Value} {an : Option Addr} {cdv ct : Value} (us : List Value) (hl : us.length = ["_law_one", "_law_two"].length) (i : Nat) (hi : i ≤ (["_law_one", "_law_two"] : List Str).length) : bindArgs (PySem.W.fnOf "_law_dot" "_law_dot" (defArgs s__law_dot) (defBody s__law_dot) (defScope s__law_dot) .none kV doc pm an cdv ct) ⟨us.take i, ((["_law_one", "_law_two"] : List Str).drop i).zip (us.drop i)⟩ = pure ((["_law_one", "_law_two"] : List Str).zip us) := by
  match us, hl with
  | [_, _], _ => match i, hi with
    | 0, _ => rfl
    | 1, _ => rfl
    | 2, _ => rfl
    | k + 3, h => exact absurd h (by simp only [List.length_cons, List.length_nil]; omega)
theorem bk__law_hue {kV doc pm : Value} {an : Option Addr} {cdv ct : Value} (us : List Value) (hl : us.length = ["_law_tap_here"].length) (i : Nat) (hi : i ≤ (["_law_tap_here"] : List Str).length) : bindArgs (PySem.W.fnOf "_law_hue" "_law_hue" (defArgs s__law_hue) (defBody s__law_hue) (defScope s__law_hue) .none kV doc pm an cdv ct) ⟨us.take i, ((["_law_tap_here"] : List Str).drop i).zip (us.drop i)⟩ = pure ((["_law_tap_here"] : List Str).zip us) := by
  match us, hl with
  | [_], _ => match i, hi with
    | 0, _ => rfl
    | 1, _ => rfl
    | k + 2, h => exact absurd h (by simp only [List.length_cons, List.length_nil]; omega)
theorem bk__law_shine {kV doc pm : Value} {an : Option Addr} {cdv ct : Value} (us : List Value) (hl : us.length = ["_law_tap_here"].length) (i : Nat) (hi : i ≤ (["_law_tap_here"] : List Str).length) : bindArgs (PySem.W.fnOf "_law_shine" "_law_shine" (defArgs s__law_shine) (defBody s__law_shine) (defScope s__law_shine) .none kV doc pm an cdv ct) ⟨us.take i, ((["_law_tap_here"] : List Str).drop i).zip (us.drop i)⟩ = pure ((["_law_tap_here"] : List Str).zip us) := by
  match us, hl with
  | [_], _ => match i, hi with
    | 0, _ => rfl
    | 1, _ => rfl
    | k + 2, h => exact absurd h (by simp only [List.length_cons, List.length_nil]; omega)
theorem bk__law_level {kV doc pm : Value} {an : Option Addr} {cdv ct : Value} (us : List Value) (hl : us.length = ["_law_tap_here"].length) (i : Nat) (hi : i ≤ (["_law_tap_here"] : List Str).length) : bindArgs (PySem.W.fnOf "_law_level" "_law_level" (defArgs s__law_level) (defBody s__law_level) (defScope s__law_level) .none kV doc pm an cdv ct) ⟨us.take i, ((["_law_tap_here"] : List Str).drop i).zip (us.drop i)⟩ = pure ((["_law_tap_here"] : List Str).zip us) := by
  match us, hl with
  | [_], _ => match i, hi with
    | 0, _ => rfl
    | 1, _ => rfl
    | k + 2, h => exact absurd h (by simp only [List.length_cons, List.length_nil]; omega)
theorem bk__law_is_multiple {kV doc pm : Value} {an : Option Addr} {cdv ct : Value} (us : List Value) (hl : us.length = ["_law_shine_here", "_law_hue_here"].length) (i : Nat) (hi : i ≤ (["_law_shine_here", "_law_hue_here"] : List Str).length) : bindArgs (PySem.W.fnOf "_law_is_multiple" "_law_is_multiple" (defArgs s__law_is_multiple) (defBody s__law_is_multiple) (defScope s__law_is_multiple) .none kV doc pm an cdv ct) ⟨us.take i, ((["_law_shine_here", "_law_hue_here"] : List Str).drop i).zip (us.drop i)⟩ = pure ((["_law_shine_here", "_law_hue_here"] : List Str).zip us) := by
  match us, hl with
  | [_, _], _ => match i, hi with
    | 0, _ => rfl
    | 1, _ => rfl
    | 2, _ => rfl
    | k + 3, h => exact absurd h (by simp only [List.length_cons, List.length_nil]; omega)
theorem bk__law_split_right {kV doc pm : Value} {an : Option Addr} {cdv ct : Value} (us : List Value) (hl : us.length = ["_law_shine_here", "_law_hue_here"].length) (i : Nat) (hi : i ≤ (["_law_shine_here", "_law_hue_here"] : List Str).length) : bindArgs (PySem.W.fnOf "_law_split_right" "_law_split_right" (defArgs s__law_split_right) (defBody s__law_split_right) (defScope s__law_split_right) .none kV doc pm an cdv ct) ⟨us.take i, ((["_law_shine_here", "_law_hue_here"] : List Str).drop i).zip (us.drop i)⟩ = pure ((["_law_shine_here", "_law_hue_here"] : List Str).zip us) := by
  match us, hl with
  | [_, _], _ => match i, hi with
    | 0, _ => rfl
    | 1, _ => rfl
    | 2, _ => rfl
    | k + 3, h => exact absurd h (by simp only [List.length_cons, List.length_nil]; omega)
theorem bk__law_joined_right {kV doc pm : Value} {an : Option Addr} {cdv ct : Value} (us : List Value) (hl : us.length = ["_law_tap_here", "_law_hue_here"].length) (i : Nat) (hi : i ≤ (["_law_tap_here", "_law_hue_here"] : List Str).length) : bindArgs (PySem.W.fnOf "_law_joined_right" "_law_joined_right" (defArgs s__law_joined_right) (defBody s__law_joined_right) (defScope s__law_joined_right) .none kV doc pm an cdv ct) ⟨us.take i, ((["_law_tap_here", "_law_hue_here"] : List Str).drop i).zip (us.drop i)⟩ = pure ((["_law_tap_here", "_law_hue_here"] : List Str).zip us) := by
  match us, hl with
  | [_, _], _ => match i, hi with
    | 0, _ => rfl
    | 1, _ => rfl
    | 2, _ => rfl
    | k + 3, h => exact absurd h (by simp only [List.length_cons, List.length_nil]; omega)
theorem bk__law_right {kV doc pm : Value} {an : Option Addr} {cdv ct : Value} (us : List Value) (hl : us.length = ["_law_tap_here"].length) (i : Nat) (hi : i ≤ (["_law_tap_here"] : List Str).length) : bindArgs (PySem.W.fnOf "_law_right" "_law_right" (defArgs s__law_right) (defBody s__law_right) (defScope s__law_right) .none kV doc pm an cdv ct) ⟨us.take i, ((["_law_tap_here"] : List Str).drop i).zip (us.drop i)⟩ = pure ((["_law_tap_here"] : List Str).zip us) := by
  match us, hl with
  | [_], _ => match i, hi with
    | 0, _ => rfl
    | 1, _ => rfl
    | k + 2, h => exact absurd h (by simp only [List.length_cons, List.length_nil]; omega)
theorem all_mk {l : PySem.W.OpenLaw} {w : World} {K : PySem.W.Frag} {h : Heap} {mg : Str → Option Value} {fa : Addr} {f_is_whole : Addr} {od_is_whole an_is_whole : Option Addr} {sl_is_whole : Array (Option Value)} {oc_is_whole kV_is_whole dc_is_whole pm_is_whole cd_is_whole ct_is_whole : Value} {f_is_row : Addr} {od_is_row an_is_row : Option Addr} {sl_is_row : Array (Option Value)} {oc_is_row kV_is_row dc_is_row pm_is_row cd_is_row ct_is_row : Value} {f_divisor_of : Addr} {od_divisor_of an_divisor_of : Option Addr} {sl_divisor_of : Array (Option Value)} {oc_divisor_of kV_divisor_of dc_divisor_of pm_divisor_of cd_divisor_of ct_divisor_of : Value} {f_is_reduced_row : Addr} {od_is_reduced_row an_is_reduced_row : Option Addr} {sl_is_reduced_row : Array (Option Value)} {oc_is_reduced_row kV_is_reduced_row dc_is_reduced_row pm_is_reduced_row cd_is_reduced_row ct_is_reduced_row : Value} {f_reduced : Addr} {od_reduced an_reduced : Option Addr} {sl_reduced : Array (Option Value)} {oc_reduced kV_reduced dc_reduced pm_reduced cd_reduced ct_reduced : Value} {f_dot : Addr} {od_dot an_dot : Option Addr} {sl_dot : Array (Option Value)} {oc_dot kV_dot dc_dot pm_dot cd_dot ct_dot : Value} {f_combined : Addr} {od_combined an_combined : Option Addr} {sl_combined : Array (Option Value)} {oc_combined kV_combined dc_combined pm_combined cd_combined ct_combined : Value} {f_ratio : Addr} {od_ratio an_ratio : Option Addr} {sl_ratio : Array (Option Value)} {oc_ratio kV_ratio dc_ratio pm_ratio cd_ratio ct_ratio : Value} {f_is_fraction : Addr} {od_is_fraction an_is_fraction : Option Addr} {sl_is_fraction : Array (Option Value)} {oc_is_fraction kV_is_fraction dc_is_fraction pm_is_fraction cd_is_fraction ct_is_fraction : Value} {f_check_positive_fraction : Addr} {od_check_positive_fraction an_check_positive_fraction : Option Addr} {sl_check_positive_fraction : Array (Option Value)} {oc_check_positive_fraction kV_check_positive_fraction dc_check_positive_fraction pm_check_positive_fraction cd_check_positive_fraction ct_check_positive_fraction : Value} {f_crossed : Addr} {od_crossed an_crossed : Option Addr} {sl_crossed : Array (Option Value)} {oc_crossed kV_crossed dc_crossed pm_crossed cd_crossed ct_crossed : Value} {f_in_cone : Addr} {od_in_cone an_in_cone : Option Addr} {sl_in_cone : Array (Option Value)} {oc_in_cone kV_in_cone dc_in_cone pm_in_cone cd_in_cone ct_in_cone : Value} {f_is_light : Addr} {od_is_light an_is_light : Option Addr} {sl_is_light : Array (Option Value)} {oc_is_light kV_is_light dc_is_light pm_is_light cd_is_light ct_is_light : Value} {f_is_kind : Addr} {od_is_kind an_is_kind : Option Addr} {sl_is_kind : Array (Option Value)} {oc_is_kind kV_is_kind dc_is_kind pm_is_kind cd_is_kind ct_is_kind : Value} {f_check_light : Addr} {od_check_light an_check_light : Option Addr} {sl_check_light : Array (Option Value)} {oc_check_light kV_check_light dc_check_light pm_check_light cd_check_light ct_check_light : Value} {f_check_kind : Addr} {od_check_kind an_check_kind : Option Addr} {sl_check_kind : Array (Option Value)} {oc_check_kind kV_check_kind dc_check_kind pm_check_kind cd_check_kind ct_check_kind : Value} {f_added : Addr} {od_added an_added : Option Addr} {sl_added : Array (Option Value)} {oc_added kV_added dc_added pm_added cd_added ct_added : Value} {f_times : Addr} {od_times an_times : Option Addr} {sl_times : Array (Option Value)} {oc_times kV_times dc_times pm_times cd_times ct_times : Value} {f_kind_of : Addr} {od_kind_of an_kind_of : Option Addr} {sl_kind_of : Array (Option Value)} {oc_kind_of kV_kind_of dc_kind_of pm_kind_of cd_kind_of ct_kind_of : Value} {f_pure_light : Addr} {od_pure_light an_pure_light : Option Addr} {sl_pure_light : Array (Option Value)} {oc_pure_light kV_pure_light dc_pure_light pm_pure_light cd_pure_light ct_pure_light : Value} {f_product : Addr} {od_product an_product : Option Addr} {sl_product : Array (Option Value)} {oc_product kV_product dc_product pm_product cd_product ct_product : Value} {f_split : Addr} {od_split an_split : Option Addr} {sl_split : Array (Option Value)} {oc_split kV_split dc_split pm_split cd_split ct_split : Value} {f__law_tap : Addr} {od__law_tap an__law_tap : Option Addr} {sl__law_tap : Array (Option Value)} {oc__law_tap kV__law_tap dc__law_tap pm__law_tap cd__law_tap ct__law_tap : Value} {f__law_from : Addr} {od__law_from an__law_from : Option Addr} {sl__law_from : Array (Option Value)} {oc__law_from kV__law_from dc__law_from pm__law_from cd__law_from ct__law_from : Value} {f__law_turns : Addr} {od__law_turns an__law_turns : Option Addr} {sl__law_turns : Array (Option Value)} {oc__law_turns kV__law_turns dc__law_turns pm__law_turns cd__law_turns ct__law_turns : Value} {f__law_pick : Addr} {od__law_pick an__law_pick : Option Addr} {sl__law_pick : Array (Option Value)} {oc__law_pick kV__law_pick dc__law_pick pm__law_pick cd__law_pick ct__law_pick : Value} {f__law_low : Addr} {od__law_low an__law_low : Option Addr} {sl__law_low : Array (Option Value)} {oc__law_low kV__law_low dc__law_low pm__law_low cd__law_low ct__law_low : Value} {f__law_common : Addr} {od__law_common an__law_common : Option Addr} {sl__law_common : Array (Option Value)} {oc__law_common kV__law_common dc__law_common pm__law_common cd__law_common ct__law_common : Value} {f__law_least : Addr} {od__law_least an__law_least : Option Addr} {sl__law_least : Array (Option Value)} {oc__law_least kV__law_least dc__law_least pm__law_least cd__law_least ct__law_least : Value} {f__law_ratio : Addr} {od__law_ratio an__law_ratio : Option Addr} {sl__law_ratio : Array (Option Value)} {oc__law_ratio kV__law_ratio dc__law_ratio pm__law_ratio cd__law_ratio ct__law_ratio : Value} {f__law_plus : Addr} {od__law_plus an__law_plus : Option Addr} {sl__law_plus : Array (Option Value)} {oc__law_plus kV__law_plus dc__law_plus pm__law_plus cd__law_plus ct__law_plus : Value} {f__law_by : Addr} {od__law_by an__law_by : Option Addr} {sl__law_by : Array (Option Value)} {oc__law_by kV__law_by dc__law_by pm__law_by cd__law_by ct__law_by : Value} {f__law_root : Addr} {od__law_root an__law_root : Option Addr} {sl__law_root : Array (Option Value)} {oc__law_root kV__law_root dc__law_root pm__law_root cd__law_root ct__law_root : Value} {f__law_are_whole : Addr} {od__law_are_whole an__law_are_whole : Option Addr} {sl__law_are_whole : Array (Option Value)} {oc__law_are_whole kV__law_are_whole dc__law_are_whole pm__law_are_whole cd__law_are_whole ct__law_are_whole : Value} {f__law_is_row : Addr} {od__law_is_row an__law_is_row : Option Addr} {sl__law_is_row : Array (Option Value)} {oc__law_is_row kV__law_is_row dc__law_is_row pm__law_is_row cd__law_is_row ct__law_is_row : Value} {f__law_cone : Addr} {od__law_cone an__law_cone : Option Addr} {sl__law_cone : Array (Option Value)} {oc__law_cone kV__law_cone dc__law_cone pm__law_cone cd__law_cone ct__law_cone : Value} {f__law_is_shine : Addr} {od__law_is_shine an__law_is_shine : Option Addr} {sl__law_is_shine : Array (Option Value)} {oc__law_is_shine kV__law_is_shine dc__law_is_shine pm__law_is_shine cd__law_is_shine ct__law_is_shine : Value} {f__law_dot : Addr} {od__law_dot an__law_dot : Option Addr} {sl__law_dot : Array (Option Value)} {oc__law_dot kV__law_dot dc__law_dot pm__law_dot cd__law_dot ct__law_dot : Value} {f__law_hue : Addr} {od__law_hue an__law_hue : Option Addr} {sl__law_hue : Array (Option Value)} {oc__law_hue kV__law_hue dc__law_hue pm__law_hue cd__law_hue ct__law_hue : Value} {f__law_shine : Addr} {od__law_shine an__law_shine : Option Addr} {sl__law_shine : Array (Option Value)} {oc__law_shine kV__law_shine dc__law_shine pm__law_shine cd__law_shine ct__law_shine : Value} {f__law_level : Addr} {od__law_level an__law_level : Option Addr} {sl__law_level : Array (Option Value)} {oc__law_level kV__law_level dc__law_level pm__law_level cd__law_level ct__law_level : Value} {f__law_is_multiple : Addr} {od__law_is_multiple an__law_is_multiple : Option Addr} {sl__law_is_multiple : Array (Option Value)} {oc__law_is_multiple kV__law_is_multiple dc__law_is_multiple pm__law_is_multiple cd__law_is_multiple ct__law_is_multiple : Value} {f__law_split_right : Addr} {od__law_split_right an__law_split_right : Option Addr} {sl__law_split_right : Array (Option Value)} {oc__law_split_right kV__law_split_right dc__law_split_right pm__law_split_right cd__law_split_right ct__law_split_right : Value} {f__law_joined_right : Addr} {od__law_joined_right an__law_joined_right : Option Addr} {sl__law_joined_right : Array (Option Value)} {oc__law_joined_right kV__law_joined_right dc__law_joined_right pm__law_joined_right cd__law_joined_right ct__law_joined_right : Value} {f__law_right : Addr} {od__law_right an__law_right : Option Addr} {sl__law_right : Array (Option Value)} {oc__law_right kV__law_right dc__law_right pm__law_right cd__law_right ct__law_right : Value} {f_law : Addr} {od_law an_law : Option Addr} {sl_law : Array (Option Value)} {oc_law kV_law dc_law pm_law cd_law ct_law : Value} {tk_q_DARK1 : Tok} {tk_q_DARK2 : Tok} {tk_q_DARK3 : Tok} {tk_q_DARK4 : Tok} {tk_q_DARK5 : Tok} {a_q_DARK5 : Addr} {dd_q_DARK5 : Option Addr} {n_q_DARK5 : Nat} {sl_q_DARK5 : Array (Option Value)} (X : K.In h) (G : h.Ns mainGlobals mg) (hfa : mg "law" = some (.ref fa))
    (a_is_whole : PySem.W.nsIn K mainGlobals "is_whole" = some (some (.ref f_is_whole)))
    (l_is_whole : K.lookup f_is_whole = some ⟨oc_is_whole, od_is_whole, .func (PySem.W.fnOf "is_whole" "is_whole" (defArgs s_is_whole) (defBody s_is_whole) (defScope s_is_whole) .none kV_is_whole dc_is_whole pm_is_whole an_is_whole cd_is_whole ct_is_whole), sl_is_whole⟩)
    (c_is_whole : PySem.W.codeIn K cd_is_whole "is_whole" = true)
    (k_is_whole : PySem.W.keepIn K (.ref f_is_whole) = true)
    (a_is_row : PySem.W.nsIn K mainGlobals "is_row" = some (some (.ref f_is_row)))
    (l_is_row : K.lookup f_is_row = some ⟨oc_is_row, od_is_row, .func (PySem.W.fnOf "is_row" "is_row" (defArgs s_is_row) (defBody s_is_row) (defScope s_is_row) .none kV_is_row dc_is_row pm_is_row an_is_row cd_is_row ct_is_row), sl_is_row⟩)
    (c_is_row : PySem.W.codeIn K cd_is_row "is_row" = true)
    (k_is_row : PySem.W.keepIn K (.ref f_is_row) = true)
    (a_divisor_of : PySem.W.nsIn K mainGlobals "divisor_of" = some (some (.ref f_divisor_of)))
    (l_divisor_of : K.lookup f_divisor_of = some ⟨oc_divisor_of, od_divisor_of, .func (PySem.W.fnOf "divisor_of" "divisor_of" (defArgs s_divisor_of) (defBody s_divisor_of) (defScope s_divisor_of) .none kV_divisor_of dc_divisor_of pm_divisor_of an_divisor_of cd_divisor_of ct_divisor_of), sl_divisor_of⟩)
    (c_divisor_of : PySem.W.codeIn K cd_divisor_of "divisor_of" = true)
    (k_divisor_of : PySem.W.keepIn K (.ref f_divisor_of) = true)
    (a_is_reduced_row : PySem.W.nsIn K mainGlobals "is_reduced_row" = some (some (.ref f_is_reduced_row)))
    (l_is_reduced_row : K.lookup f_is_reduced_row = some ⟨oc_is_reduced_row, od_is_reduced_row, .func (PySem.W.fnOf "is_reduced_row" "is_reduced_row" (defArgs s_is_reduced_row) (defBody s_is_reduced_row) (defScope s_is_reduced_row) .none kV_is_reduced_row dc_is_reduced_row pm_is_reduced_row an_is_reduced_row cd_is_reduced_row ct_is_reduced_row), sl_is_reduced_row⟩)
    (c_is_reduced_row : PySem.W.codeIn K cd_is_reduced_row "is_reduced_row" = true)
    (k_is_reduced_row : PySem.W.keepIn K (.ref f_is_reduced_row) = true)
    (a_reduced : PySem.W.nsIn K mainGlobals "reduced" = some (some (.ref f_reduced)))
    (l_reduced : K.lookup f_reduced = some ⟨oc_reduced, od_reduced, .func (PySem.W.fnOf "reduced" "reduced" (defArgs s_reduced) (defBody s_reduced) (defScope s_reduced) .none kV_reduced dc_reduced pm_reduced an_reduced cd_reduced ct_reduced), sl_reduced⟩)
    (c_reduced : PySem.W.codeIn K cd_reduced "reduced" = true)
    (k_reduced : PySem.W.keepIn K (.ref f_reduced) = true)
    (a_dot : PySem.W.nsIn K mainGlobals "dot" = some (some (.ref f_dot)))
    (l_dot : K.lookup f_dot = some ⟨oc_dot, od_dot, .func (PySem.W.fnOf "dot" "dot" (defArgs s_dot) (defBody s_dot) (defScope s_dot) .none kV_dot dc_dot pm_dot an_dot cd_dot ct_dot), sl_dot⟩)
    (c_dot : PySem.W.codeIn K cd_dot "dot" = true)
    (k_dot : PySem.W.keepIn K (.ref f_dot) = true)
    (a_combined : PySem.W.nsIn K mainGlobals "combined" = some (some (.ref f_combined)))
    (l_combined : K.lookup f_combined = some ⟨oc_combined, od_combined, .func (PySem.W.fnOf "combined" "combined" (defArgs s_combined) (defBody s_combined) (defScope s_combined) .none kV_combined dc_combined pm_combined an_combined cd_combined ct_combined), sl_combined⟩)
    (c_combined : PySem.W.codeIn K cd_combined "combined" = true)
    (k_combined : PySem.W.keepIn K (.ref f_combined) = true)
    (a_ratio : PySem.W.nsIn K mainGlobals "ratio" = some (some (.ref f_ratio)))
    (l_ratio : K.lookup f_ratio = some ⟨oc_ratio, od_ratio, .func (PySem.W.fnOf "ratio" "ratio" (defArgs s_ratio) (defBody s_ratio) (defScope s_ratio) .none kV_ratio dc_ratio pm_ratio an_ratio cd_ratio ct_ratio), sl_ratio⟩)
    (c_ratio : PySem.W.codeIn K cd_ratio "ratio" = true)
    (k_ratio : PySem.W.keepIn K (.ref f_ratio) = true)
    (a_is_fraction : PySem.W.nsIn K mainGlobals "is_fraction" = some (some (.ref f_is_fraction)))
    (l_is_fraction : K.lookup f_is_fraction = some ⟨oc_is_fraction, od_is_fraction, .func (PySem.W.fnOf "is_fraction" "is_fraction" (defArgs s_is_fraction) (defBody s_is_fraction) (defScope s_is_fraction) .none kV_is_fraction dc_is_fraction pm_is_fraction an_is_fraction cd_is_fraction ct_is_fraction), sl_is_fraction⟩)
    (c_is_fraction : PySem.W.codeIn K cd_is_fraction "is_fraction" = true)
    (k_is_fraction : PySem.W.keepIn K (.ref f_is_fraction) = true)
    (a_check_positive_fraction : PySem.W.nsIn K mainGlobals "check_positive_fraction" = some (some (.ref f_check_positive_fraction)))
    (l_check_positive_fraction : K.lookup f_check_positive_fraction = some ⟨oc_check_positive_fraction, od_check_positive_fraction, .func (PySem.W.fnOf "check_positive_fraction" "check_positive_fraction" (defArgs s_check_positive_fraction) (defBody s_check_positive_fraction) (defScope s_check_positive_fraction) .none kV_check_positive_fraction dc_check_positive_fraction pm_check_positive_fraction an_check_positive_fraction cd_check_positive_fraction ct_check_positive_fraction), sl_check_positive_fraction⟩)
    (c_check_positive_fraction : PySem.W.codeIn K cd_check_positive_fraction "check_positive_fraction" = true)
    (k_check_positive_fraction : PySem.W.keepIn K (.ref f_check_positive_fraction) = true)
    (a_crossed : PySem.W.nsIn K mainGlobals "crossed" = some (some (.ref f_crossed)))
    (l_crossed : K.lookup f_crossed = some ⟨oc_crossed, od_crossed, .func (PySem.W.fnOf "crossed" "crossed" (defArgs s_crossed) (defBody s_crossed) (defScope s_crossed) .none kV_crossed dc_crossed pm_crossed an_crossed cd_crossed ct_crossed), sl_crossed⟩)
    (c_crossed : PySem.W.codeIn K cd_crossed "crossed" = true)
    (k_crossed : PySem.W.keepIn K (.ref f_crossed) = true)
    (a_in_cone : PySem.W.nsIn K mainGlobals "in_cone" = some (some (.ref f_in_cone)))
    (l_in_cone : K.lookup f_in_cone = some ⟨oc_in_cone, od_in_cone, .func (PySem.W.fnOf "in_cone" "in_cone" (defArgs s_in_cone) (defBody s_in_cone) (defScope s_in_cone) .none kV_in_cone dc_in_cone pm_in_cone an_in_cone cd_in_cone ct_in_cone), sl_in_cone⟩)
    (c_in_cone : PySem.W.codeIn K cd_in_cone "in_cone" = true)
    (k_in_cone : PySem.W.keepIn K (.ref f_in_cone) = true)
    (a_is_light : PySem.W.nsIn K mainGlobals "is_light" = some (some (.ref f_is_light)))
    (l_is_light : K.lookup f_is_light = some ⟨oc_is_light, od_is_light, .func (PySem.W.fnOf "is_light" "is_light" (defArgs s_is_light) (defBody s_is_light) (defScope s_is_light) .none kV_is_light dc_is_light pm_is_light an_is_light cd_is_light ct_is_light), sl_is_light⟩)
    (c_is_light : PySem.W.codeIn K cd_is_light "is_light" = true)
    (k_is_light : PySem.W.keepIn K (.ref f_is_light) = true)
    (a_is_kind : PySem.W.nsIn K mainGlobals "is_kind" = some (some (.ref f_is_kind)))
    (l_is_kind : K.lookup f_is_kind = some ⟨oc_is_kind, od_is_kind, .func (PySem.W.fnOf "is_kind" "is_kind" (defArgs s_is_kind) (defBody s_is_kind) (defScope s_is_kind) .none kV_is_kind dc_is_kind pm_is_kind an_is_kind cd_is_kind ct_is_kind), sl_is_kind⟩)
    (c_is_kind : PySem.W.codeIn K cd_is_kind "is_kind" = true)
    (k_is_kind : PySem.W.keepIn K (.ref f_is_kind) = true)
    (a_check_light : PySem.W.nsIn K mainGlobals "check_light" = some (some (.ref f_check_light)))
    (l_check_light : K.lookup f_check_light = some ⟨oc_check_light, od_check_light, .func (PySem.W.fnOf "check_light" "check_light" (defArgs s_check_light) (defBody s_check_light) (defScope s_check_light) .none kV_check_light dc_check_light pm_check_light an_check_light cd_check_light ct_check_light), sl_check_light⟩)
    (c_check_light : PySem.W.codeIn K cd_check_light "check_light" = true)
    (k_check_light : PySem.W.keepIn K (.ref f_check_light) = true)
    (a_check_kind : PySem.W.nsIn K mainGlobals "check_kind" = some (some (.ref f_check_kind)))
    (l_check_kind : K.lookup f_check_kind = some ⟨oc_check_kind, od_check_kind, .func (PySem.W.fnOf "check_kind" "check_kind" (defArgs s_check_kind) (defBody s_check_kind) (defScope s_check_kind) .none kV_check_kind dc_check_kind pm_check_kind an_check_kind cd_check_kind ct_check_kind), sl_check_kind⟩)
    (c_check_kind : PySem.W.codeIn K cd_check_kind "check_kind" = true)
    (k_check_kind : PySem.W.keepIn K (.ref f_check_kind) = true)
    (a_added : PySem.W.nsIn K mainGlobals "added" = some (some (.ref f_added)))
    (l_added : K.lookup f_added = some ⟨oc_added, od_added, .func (PySem.W.fnOf "added" "added" (defArgs s_added) (defBody s_added) (defScope s_added) .none kV_added dc_added pm_added an_added cd_added ct_added), sl_added⟩)
    (c_added : PySem.W.codeIn K cd_added "added" = true)
    (k_added : PySem.W.keepIn K (.ref f_added) = true)
    (a_times : PySem.W.nsIn K mainGlobals "times" = some (some (.ref f_times)))
    (l_times : K.lookup f_times = some ⟨oc_times, od_times, .func (PySem.W.fnOf "times" "times" (defArgs s_times) (defBody s_times) (defScope s_times) .none kV_times dc_times pm_times an_times cd_times ct_times), sl_times⟩)
    (c_times : PySem.W.codeIn K cd_times "times" = true)
    (k_times : PySem.W.keepIn K (.ref f_times) = true)
    (a_kind_of : PySem.W.nsIn K mainGlobals "kind_of" = some (some (.ref f_kind_of)))
    (l_kind_of : K.lookup f_kind_of = some ⟨oc_kind_of, od_kind_of, .func (PySem.W.fnOf "kind_of" "kind_of" (defArgs s_kind_of) (defBody s_kind_of) (defScope s_kind_of) .none kV_kind_of dc_kind_of pm_kind_of an_kind_of cd_kind_of ct_kind_of), sl_kind_of⟩)
    (c_kind_of : PySem.W.codeIn K cd_kind_of "kind_of" = true)
    (k_kind_of : PySem.W.keepIn K (.ref f_kind_of) = true)
    (a_pure_light : PySem.W.nsIn K mainGlobals "pure_light" = some (some (.ref f_pure_light)))
    (l_pure_light : K.lookup f_pure_light = some ⟨oc_pure_light, od_pure_light, .func (PySem.W.fnOf "pure_light" "pure_light" (defArgs s_pure_light) (defBody s_pure_light) (defScope s_pure_light) .none kV_pure_light dc_pure_light pm_pure_light an_pure_light cd_pure_light ct_pure_light), sl_pure_light⟩)
    (c_pure_light : PySem.W.codeIn K cd_pure_light "pure_light" = true)
    (k_pure_light : PySem.W.keepIn K (.ref f_pure_light) = true)
    (a_product : PySem.W.nsIn K mainGlobals "product" = some (some (.ref f_product)))
    (l_product : K.lookup f_product = some ⟨oc_product, od_product, .func (PySem.W.fnOf "product" "product" (defArgs s_product) (defBody s_product) (defScope s_product) .none kV_product dc_product pm_product an_product cd_product ct_product), sl_product⟩)
    (c_product : PySem.W.codeIn K cd_product "product" = true)
    (k_product : PySem.W.keepIn K (.ref f_product) = true)
    (a_split : PySem.W.nsIn K mainGlobals "split" = some (some (.ref f_split)))
    (l_split : K.lookup f_split = some ⟨oc_split, od_split, .func (PySem.W.fnOf "split" "split" (defArgs s_split) (defBody s_split) (defScope s_split) .none kV_split dc_split pm_split an_split cd_split ct_split), sl_split⟩)
    (c_split : PySem.W.codeIn K cd_split "split" = true)
    (k_split : PySem.W.keepIn K (.ref f_split) = true)
    (a__law_tap : PySem.W.nsIn K mainGlobals "_law_tap" = some (some (.ref f__law_tap)))
    (l__law_tap : K.lookup f__law_tap = some ⟨oc__law_tap, od__law_tap, .func (PySem.W.fnOf "_law_tap" "_law_tap" (defArgs s__law_tap) (defBody s__law_tap) (defScope s__law_tap) .none kV__law_tap dc__law_tap pm__law_tap an__law_tap cd__law_tap ct__law_tap), sl__law_tap⟩)
    (c__law_tap : PySem.W.codeIn K cd__law_tap "_law_tap" = true)
    (k__law_tap : PySem.W.keepIn K (.ref f__law_tap) = true)
    (a__law_from : PySem.W.nsIn K mainGlobals "_law_from" = some (some (.ref f__law_from)))
    (l__law_from : K.lookup f__law_from = some ⟨oc__law_from, od__law_from, .func (PySem.W.fnOf "_law_from" "_law_from" (defArgs s__law_from) (defBody s__law_from) (defScope s__law_from) .none kV__law_from dc__law_from pm__law_from an__law_from cd__law_from ct__law_from), sl__law_from⟩)
    (c__law_from : PySem.W.codeIn K cd__law_from "_law_from" = true)
    (k__law_from : PySem.W.keepIn K (.ref f__law_from) = true)
    (a__law_turns : PySem.W.nsIn K mainGlobals "_law_turns" = some (some (.ref f__law_turns)))
    (l__law_turns : K.lookup f__law_turns = some ⟨oc__law_turns, od__law_turns, .func (PySem.W.fnOf "_law_turns" "_law_turns" (defArgs s__law_turns) (defBody s__law_turns) (defScope s__law_turns) .none kV__law_turns dc__law_turns pm__law_turns an__law_turns cd__law_turns ct__law_turns), sl__law_turns⟩)
    (c__law_turns : PySem.W.codeIn K cd__law_turns "_law_turns" = true)
    (k__law_turns : PySem.W.keepIn K (.ref f__law_turns) = true)
    (a__law_pick : PySem.W.nsIn K mainGlobals "_law_pick" = some (some (.ref f__law_pick)))
    (l__law_pick : K.lookup f__law_pick = some ⟨oc__law_pick, od__law_pick, .func (PySem.W.fnOf "_law_pick" "_law_pick" (defArgs s__law_pick) (defBody s__law_pick) (defScope s__law_pick) .none kV__law_pick dc__law_pick pm__law_pick an__law_pick cd__law_pick ct__law_pick), sl__law_pick⟩)
    (c__law_pick : PySem.W.codeIn K cd__law_pick "_law_pick" = true)
    (k__law_pick : PySem.W.keepIn K (.ref f__law_pick) = true)
    (a__law_low : PySem.W.nsIn K mainGlobals "_law_low" = some (some (.ref f__law_low)))
    (l__law_low : K.lookup f__law_low = some ⟨oc__law_low, od__law_low, .func (PySem.W.fnOf "_law_low" "_law_low" (defArgs s__law_low) (defBody s__law_low) (defScope s__law_low) .none kV__law_low dc__law_low pm__law_low an__law_low cd__law_low ct__law_low), sl__law_low⟩)
    (c__law_low : PySem.W.codeIn K cd__law_low "_law_low" = true)
    (k__law_low : PySem.W.keepIn K (.ref f__law_low) = true)
    (a__law_common : PySem.W.nsIn K mainGlobals "_law_common" = some (some (.ref f__law_common)))
    (l__law_common : K.lookup f__law_common = some ⟨oc__law_common, od__law_common, .func (PySem.W.fnOf "_law_common" "_law_common" (defArgs s__law_common) (defBody s__law_common) (defScope s__law_common) .none kV__law_common dc__law_common pm__law_common an__law_common cd__law_common ct__law_common), sl__law_common⟩)
    (c__law_common : PySem.W.codeIn K cd__law_common "_law_common" = true)
    (k__law_common : PySem.W.keepIn K (.ref f__law_common) = true)
    (a__law_least : PySem.W.nsIn K mainGlobals "_law_least" = some (some (.ref f__law_least)))
    (l__law_least : K.lookup f__law_least = some ⟨oc__law_least, od__law_least, .func (PySem.W.fnOf "_law_least" "_law_least" (defArgs s__law_least) (defBody s__law_least) (defScope s__law_least) .none kV__law_least dc__law_least pm__law_least an__law_least cd__law_least ct__law_least), sl__law_least⟩)
    (c__law_least : PySem.W.codeIn K cd__law_least "_law_least" = true)
    (k__law_least : PySem.W.keepIn K (.ref f__law_least) = true)
    (a__law_ratio : PySem.W.nsIn K mainGlobals "_law_ratio" = some (some (.ref f__law_ratio)))
    (l__law_ratio : K.lookup f__law_ratio = some ⟨oc__law_ratio, od__law_ratio, .func (PySem.W.fnOf "_law_ratio" "_law_ratio" (defArgs s__law_ratio) (defBody s__law_ratio) (defScope s__law_ratio) .none kV__law_ratio dc__law_ratio pm__law_ratio an__law_ratio cd__law_ratio ct__law_ratio), sl__law_ratio⟩)
    (c__law_ratio : PySem.W.codeIn K cd__law_ratio "_law_ratio" = true)
    (k__law_ratio : PySem.W.keepIn K (.ref f__law_ratio) = true)
    (a__law_plus : PySem.W.nsIn K mainGlobals "_law_plus" = some (some (.ref f__law_plus)))
    (l__law_plus : K.lookup f__law_plus = some ⟨oc__law_plus, od__law_plus, .func (PySem.W.fnOf "_law_plus" "_law_plus" (defArgs s__law_plus) (defBody s__law_plus) (defScope s__law_plus) .none kV__law_plus dc__law_plus pm__law_plus an__law_plus cd__law_plus ct__law_plus), sl__law_plus⟩)
    (c__law_plus : PySem.W.codeIn K cd__law_plus "_law_plus" = true)
    (k__law_plus : PySem.W.keepIn K (.ref f__law_plus) = true)
    (a__law_by : PySem.W.nsIn K mainGlobals "_law_by" = some (some (.ref f__law_by)))
    (l__law_by : K.lookup f__law_by = some ⟨oc__law_by, od__law_by, .func (PySem.W.fnOf "_law_by" "_law_by" (defArgs s__law_by) (defBody s__law_by) (defScope s__law_by) .none kV__law_by dc__law_by pm__law_by an__law_by cd__law_by ct__law_by), sl__law_by⟩)
    (c__law_by : PySem.W.codeIn K cd__law_by "_law_by" = true)
    (k__law_by : PySem.W.keepIn K (.ref f__law_by) = true)
    (a__law_root : PySem.W.nsIn K mainGlobals "_law_root" = some (some (.ref f__law_root)))
    (l__law_root : K.lookup f__law_root = some ⟨oc__law_root, od__law_root, .func (PySem.W.fnOf "_law_root" "_law_root" (defArgs s__law_root) (defBody s__law_root) (defScope s__law_root) .none kV__law_root dc__law_root pm__law_root an__law_root cd__law_root ct__law_root), sl__law_root⟩)
    (c__law_root : PySem.W.codeIn K cd__law_root "_law_root" = true)
    (k__law_root : PySem.W.keepIn K (.ref f__law_root) = true)
    (a__law_are_whole : PySem.W.nsIn K mainGlobals "_law_are_whole" = some (some (.ref f__law_are_whole)))
    (l__law_are_whole : K.lookup f__law_are_whole = some ⟨oc__law_are_whole, od__law_are_whole, .func (PySem.W.fnOf "_law_are_whole" "_law_are_whole" (defArgs s__law_are_whole) (defBody s__law_are_whole) (defScope s__law_are_whole) .none kV__law_are_whole dc__law_are_whole pm__law_are_whole an__law_are_whole cd__law_are_whole ct__law_are_whole), sl__law_are_whole⟩)
    (c__law_are_whole : PySem.W.codeIn K cd__law_are_whole "_law_are_whole" = true)
    (k__law_are_whole : PySem.W.keepIn K (.ref f__law_are_whole) = true)
    (a__law_is_row : PySem.W.nsIn K mainGlobals "_law_is_row" = some (some (.ref f__law_is_row)))
    (l__law_is_row : K.lookup f__law_is_row = some ⟨oc__law_is_row, od__law_is_row, .func (PySem.W.fnOf "_law_is_row" "_law_is_row" (defArgs s__law_is_row) (defBody s__law_is_row) (defScope s__law_is_row) .none kV__law_is_row dc__law_is_row pm__law_is_row an__law_is_row cd__law_is_row ct__law_is_row), sl__law_is_row⟩)
    (c__law_is_row : PySem.W.codeIn K cd__law_is_row "_law_is_row" = true)
    (k__law_is_row : PySem.W.keepIn K (.ref f__law_is_row) = true)
    (a__law_cone : PySem.W.nsIn K mainGlobals "_law_cone" = some (some (.ref f__law_cone)))
    (l__law_cone : K.lookup f__law_cone = some ⟨oc__law_cone, od__law_cone, .func (PySem.W.fnOf "_law_cone" "_law_cone" (defArgs s__law_cone) (defBody s__law_cone) (defScope s__law_cone) .none kV__law_cone dc__law_cone pm__law_cone an__law_cone cd__law_cone ct__law_cone), sl__law_cone⟩)
    (c__law_cone : PySem.W.codeIn K cd__law_cone "_law_cone" = true)
    (k__law_cone : PySem.W.keepIn K (.ref f__law_cone) = true)
    (a__law_is_shine : PySem.W.nsIn K mainGlobals "_law_is_shine" = some (some (.ref f__law_is_shine)))
    (l__law_is_shine : K.lookup f__law_is_shine = some ⟨oc__law_is_shine, od__law_is_shine, .func (PySem.W.fnOf "_law_is_shine" "_law_is_shine" (defArgs s__law_is_shine) (defBody s__law_is_shine) (defScope s__law_is_shine) .none kV__law_is_shine dc__law_is_shine pm__law_is_shine an__law_is_shine cd__law_is_shine ct__law_is_shine), sl__law_is_shine⟩)
    (c__law_is_shine : PySem.W.codeIn K cd__law_is_shine "_law_is_shine" = true)
    (k__law_is_shine : PySem.W.keepIn K (.ref f__law_is_shine) = true)
    (a__law_dot : PySem.W.nsIn K mainGlobals "_law_dot" = some (some (.ref f__law_dot)))
    (l__law_dot : K.lookup f__law_dot = some ⟨oc__law_dot, od__law_dot, .func (PySem.W.fnOf "_law_dot" "_law_dot" (defArgs s__law_dot) (defBody s__law_dot) (defScope s__law_dot) .none kV__law_dot dc__law_dot pm__law_dot an__law_dot cd__law_dot ct__law_dot), sl__law_dot⟩)
    (c__law_dot : PySem.W.codeIn K cd__law_dot "_law_dot" = true)
    (k__law_dot : PySem.W.keepIn K (.ref f__law_dot) = true)
    (a__law_hue : PySem.W.nsIn K mainGlobals "_law_hue" = some (some (.ref f__law_hue)))
    (l__law_hue : K.lookup f__law_hue = some ⟨oc__law_hue, od__law_hue, .func (PySem.W.fnOf "_law_hue" "_law_hue" (defArgs s__law_hue) (defBody s__law_hue) (defScope s__law_hue) .none kV__law_hue dc__law_hue pm__law_hue an__law_hue cd__law_hue ct__law_hue), sl__law_hue⟩)
    (c__law_hue : PySem.W.codeIn K cd__law_hue "_law_hue" = true)
    (k__law_hue : PySem.W.keepIn K (.ref f__law_hue) = true)
    (a__law_shine : PySem.W.nsIn K mainGlobals "_law_shine" = some (some (.ref f__law_shine)))
    (l__law_shine : K.lookup f__law_shine = some ⟨oc__law_shine, od__law_shine, .func (PySem.W.fnOf "_law_shine" "_law_shine" (defArgs s__law_shine) (defBody s__law_shine) (defScope s__law_shine) .none kV__law_shine dc__law_shine pm__law_shine an__law_shine cd__law_shine ct__law_shine), sl__law_shine⟩)
    (c__law_shine : PySem.W.codeIn K cd__law_shine "_law_shine" = true)
    (k__law_shine : PySem.W.keepIn K (.ref f__law_shine) = true)
    (a__law_level : PySem.W.nsIn K mainGlobals "_law_level" = some (some (.ref f__law_level)))
    (l__law_level : K.lookup f__law_level = some ⟨oc__law_level, od__law_level, .func (PySem.W.fnOf "_law_level" "_law_level" (defArgs s__law_level) (defBody s__law_level) (defScope s__law_level) .none kV__law_level dc__law_level pm__law_level an__law_level cd__law_level ct__law_level), sl__law_level⟩)
    (c__law_level : PySem.W.codeIn K cd__law_level "_law_level" = true)
    (k__law_level : PySem.W.keepIn K (.ref f__law_level) = true)
    (a__law_is_multiple : PySem.W.nsIn K mainGlobals "_law_is_multiple" = some (some (.ref f__law_is_multiple)))
    (l__law_is_multiple : K.lookup f__law_is_multiple = some ⟨oc__law_is_multiple, od__law_is_multiple, .func (PySem.W.fnOf "_law_is_multiple" "_law_is_multiple" (defArgs s__law_is_multiple) (defBody s__law_is_multiple) (defScope s__law_is_multiple) .none kV__law_is_multiple dc__law_is_multiple pm__law_is_multiple an__law_is_multiple cd__law_is_multiple ct__law_is_multiple), sl__law_is_multiple⟩)
    (c__law_is_multiple : PySem.W.codeIn K cd__law_is_multiple "_law_is_multiple" = true)
    (k__law_is_multiple : PySem.W.keepIn K (.ref f__law_is_multiple) = true)
    (a__law_split_right : PySem.W.nsIn K mainGlobals "_law_split_right" = some (some (.ref f__law_split_right)))
    (l__law_split_right : K.lookup f__law_split_right = some ⟨oc__law_split_right, od__law_split_right, .func (PySem.W.fnOf "_law_split_right" "_law_split_right" (defArgs s__law_split_right) (defBody s__law_split_right) (defScope s__law_split_right) .none kV__law_split_right dc__law_split_right pm__law_split_right an__law_split_right cd__law_split_right ct__law_split_right), sl__law_split_right⟩)
    (c__law_split_right : PySem.W.codeIn K cd__law_split_right "_law_split_right" = true)
    (k__law_split_right : PySem.W.keepIn K (.ref f__law_split_right) = true)
    (a__law_joined_right : PySem.W.nsIn K mainGlobals "_law_joined_right" = some (some (.ref f__law_joined_right)))
    (l__law_joined_right : K.lookup f__law_joined_right = some ⟨oc__law_joined_right, od__law_joined_right, .func (PySem.W.fnOf "_law_joined_right" "_law_joined_right" (defArgs s__law_joined_right) (defBody s__law_joined_right) (defScope s__law_joined_right) .none kV__law_joined_right dc__law_joined_right pm__law_joined_right an__law_joined_right cd__law_joined_right ct__law_joined_right), sl__law_joined_right⟩)
    (c__law_joined_right : PySem.W.codeIn K cd__law_joined_right "_law_joined_right" = true)
    (k__law_joined_right : PySem.W.keepIn K (.ref f__law_joined_right) = true)
    (a__law_right : PySem.W.nsIn K mainGlobals "_law_right" = some (some (.ref f__law_right)))
    (l__law_right : K.lookup f__law_right = some ⟨oc__law_right, od__law_right, .func (PySem.W.fnOf "_law_right" "_law_right" (defArgs s__law_right) (defBody s__law_right) (defScope s__law_right) .none kV__law_right dc__law_right pm__law_right an__law_right cd__law_right ct__law_right), sl__law_right⟩)
    (c__law_right : PySem.W.codeIn K cd__law_right "_law_right" = true)
    (k__law_right : PySem.W.keepIn K (.ref f__law_right) = true)
    (a_law : PySem.W.nsIn K mainGlobals "law" = some (some (.ref f_law)))
    (l_law : K.lookup f_law = some ⟨oc_law, od_law, .func (PySem.W.fnOf "law" "law" (defArgs s_law) (defBody s_law) (defScope s_law) .none kV_law dc_law pm_law an_law cd_law ct_law), sl_law⟩)
    (c_law : PySem.W.codeIn K cd_law "law" = true)
    (k_law : PySem.W.keepIn K (.ref f_law) = true)
    (z_gcd : PySem.W.nsIn K mainGlobals "gcd" = some (some (.builtin "math.gcd")))
    (z_abs : PySem.W.nsIn K mainGlobals "abs" = some none)
    (z_all : PySem.W.nsIn K mainGlobals "all" = some none)
    (z_bool : PySem.W.nsIn K mainGlobals "bool" = some none)
    (z_divmod : PySem.W.nsIn K mainGlobals "divmod" = some none)
    (z_int : PySem.W.nsIn K mainGlobals "int" = some none)
    (z_isinstance : PySem.W.nsIn K mainGlobals "isinstance" = some none)
    (z_len : PySem.W.nsIn K mainGlobals "len" = some none)
    (z_max : PySem.W.nsIn K mainGlobals "max" = some none)
    (z_min : PySem.W.nsIn K mainGlobals "min" = some none)
    (z_range : PySem.W.nsIn K mainGlobals "range" = some none)
    (z_repr : PySem.W.nsIn K mainGlobals "repr" = some none)
    (z_sum : PySem.W.nsIn K mainGlobals "sum" = some none)
    (z_tuple : PySem.W.nsIn K mainGlobals "tuple" = some none)
    (z_type : PySem.W.nsIn K mainGlobals "type" = some none)
    (z_zip : PySem.W.nsIn K mainGlobals "zip" = some none)
    (y__DARK : PySem.W.nsIn K mainGlobals "_DARK" = some (some (.ref a_q_DARK5)))
    (t_q_DARK5 : K.lookup a_q_DARK5 = some ⟨.type "tuple", dd_q_DARK5, .seq #[.int (0) tk_q_DARK1, .int (0) tk_q_DARK2, .int (0) tk_q_DARK3, .int (0) tk_q_DARK4, .int (1) tk_q_DARK5] n_q_DARK5, sl_q_DARK5⟩) :
    ∃ fd : FuncData, (∀ (s : Shared) (v : Value), BindsTo s fd ⟨[v], []⟩ [("_law_script", v)]) ∧ ∀ base : Heap, K.In base → base.Ns mainGlobals mg → FnG l.prog w K mg base 9 fa fd ["_law_script"] F_law_K06 := by
  have e := hfa.symm.trans (PySem.W.mg_of X G a_law)
  cases e
  have U_is_whole := fun_mk (st := s_is_whole) l_is_whole c_is_whole k_is_whole
  have U_is_row := fun_mk (st := s_is_row) l_is_row c_is_row k_is_row
  have U_divisor_of := fun_mk (st := s_divisor_of) l_divisor_of c_divisor_of k_divisor_of
  have U_is_reduced_row := fun_mk (st := s_is_reduced_row) l_is_reduced_row c_is_reduced_row k_is_reduced_row
  have U_reduced := fun_mk (st := s_reduced) l_reduced c_reduced k_reduced
  have U_dot := fun_mk (st := s_dot) l_dot c_dot k_dot
  have U_combined := fun_mk (st := s_combined) l_combined c_combined k_combined
  have U_ratio := fun_mk (st := s_ratio) l_ratio c_ratio k_ratio
  have U_is_fraction := fun_mk (st := s_is_fraction) l_is_fraction c_is_fraction k_is_fraction
  have U_check_positive_fraction := fun_mk (st := s_check_positive_fraction) l_check_positive_fraction c_check_positive_fraction k_check_positive_fraction
  have U_crossed := fun_mk (st := s_crossed) l_crossed c_crossed k_crossed
  have U_in_cone := fun_mk (st := s_in_cone) l_in_cone c_in_cone k_in_cone
  have U_is_light := fun_mk (st := s_is_light) l_is_light c_is_light k_is_light
  have U_is_kind := fun_mk (st := s_is_kind) l_is_kind c_is_kind k_is_kind
  have U_check_light := fun_mk (st := s_check_light) l_check_light c_check_light k_check_light
  have U_check_kind := fun_mk (st := s_check_kind) l_check_kind c_check_kind k_check_kind
  have U_added := fun_mk (st := s_added) l_added c_added k_added
  have U_times := fun_mk (st := s_times) l_times c_times k_times
  have U_kind_of := fun_mk (st := s_kind_of) l_kind_of c_kind_of k_kind_of
  have U_pure_light := fun_mk (st := s_pure_light) l_pure_light c_pure_light k_pure_light
  have U_product := fun_mk (st := s_product) l_product c_product k_product
  have U_split := fun_mk (st := s_split) l_split c_split k_split
  have U__law_tap := fun_mk (st := s__law_tap) l__law_tap c__law_tap k__law_tap
  have U__law_from := fun_mk (st := s__law_from) l__law_from c__law_from k__law_from
  have U__law_turns := fun_mk (st := s__law_turns) l__law_turns c__law_turns k__law_turns
  have U__law_pick := fun_mk (st := s__law_pick) l__law_pick c__law_pick k__law_pick
  have U__law_low := fun_mk (st := s__law_low) l__law_low c__law_low k__law_low
  have U__law_common := fun_mk (st := s__law_common) l__law_common c__law_common k__law_common
  have U__law_least := fun_mk (st := s__law_least) l__law_least c__law_least k__law_least
  have U__law_ratio := fun_mk (st := s__law_ratio) l__law_ratio c__law_ratio k__law_ratio
  have U__law_plus := fun_mk (st := s__law_plus) l__law_plus c__law_plus k__law_plus
  have U__law_by := fun_mk (st := s__law_by) l__law_by c__law_by k__law_by
  have U__law_root := fun_mk (st := s__law_root) l__law_root c__law_root k__law_root
  have U__law_are_whole := fun_mk (st := s__law_are_whole) l__law_are_whole c__law_are_whole k__law_are_whole
  have U__law_is_row := fun_mk (st := s__law_is_row) l__law_is_row c__law_is_row k__law_is_row
  have U__law_cone := fun_mk (st := s__law_cone) l__law_cone c__law_cone k__law_cone
  have U__law_is_shine := fun_mk (st := s__law_is_shine) l__law_is_shine c__law_is_shine k__law_is_shine
  have U__law_dot := fun_mk (st := s__law_dot) l__law_dot c__law_dot k__law_dot
  have U__law_hue := fun_mk (st := s__law_hue) l__law_hue c__law_hue k__law_hue
  have U__law_shine := fun_mk (st := s__law_shine) l__law_shine c__law_shine k__law_shine
  have U__law_level := fun_mk (st := s__law_level) l__law_level c__law_level k__law_level
  have U__law_is_multiple := fun_mk (st := s__law_is_multiple) l__law_is_multiple c__law_is_multiple k__law_is_multiple
  have U__law_split_right := fun_mk (st := s__law_split_right) l__law_split_right c__law_split_right k__law_split_right
  have U__law_joined_right := fun_mk (st := s__law_joined_right) l__law_joined_right c__law_joined_right k__law_joined_right
  have U__law_right := fun_mk (st := s__law_right) l__law_right c__law_right k__law_right
  have U_law := fun_mk (st := s_law) l_law c_law k_law
  have T : Tx K mg := ⟨PySem.W.mg_of X G z_gcd, PySem.W.mg_none_of X G z_abs, PySem.W.mg_none_of X G z_all, PySem.W.mg_none_of X G z_bool, PySem.W.mg_none_of X G z_divmod, PySem.W.mg_none_of X G z_int, PySem.W.mg_none_of X G z_isinstance, PySem.W.mg_none_of X G z_len, PySem.W.mg_none_of X G z_max, PySem.W.mg_none_of X G z_min, PySem.W.mg_none_of X G z_range, PySem.W.mg_none_of X G z_repr, PySem.W.mg_none_of X G z_sum, PySem.W.mg_none_of X G z_tuple, PySem.W.mg_none_of X G z_type, PySem.W.mg_none_of X G z_zip, ⟨.ref a_q_DARK5, _, PySem.W.mg_of X G y__DARK, rfl, fun _ => (dp_kt (vs := [.int (0), .int (0), .int (0), .int (0), .int (1)]) t_q_DARK5 (by show 5 ≤ sizeLine; decide) (.cons ⟨_, rfl⟩ (.cons ⟨_, rfl⟩ (.cons ⟨_, rfl⟩ (.cons ⟨_, rfl⟩ (.cons ⟨_, rfl⟩ .nil))))) fun _ => (.cons (.int _) (.cons (.int _) (.cons (.int _) (.cons (.int _) (.cons (.int _) .nil))))))⟩⟩
  refine ⟨PySem.W.fnOf "law" "law" (defArgs s_law) (defBody s_law) (defScope s_law) .none kV_law dc_law pm_law an_law cd_law ct_law, fun s v => .of_eq rfl, fun base _ _ => ?_⟩
  have C_is_whole : At l.prog w K mg base 1 "is_whole" ["value"] F_is_whole := at_mk U_is_whole (PySem.W.mg_of X G a_is_whole) (ok_is_whole U_is_whole T ) fun _ _ _ _ _ _ us hl i hi => bk_is_whole us hl i hi
  have C_is_row : At l.prog w K mg base 2 "is_row" ["value", "many"] F_is_row := at_mk U_is_row (PySem.W.mg_of X G a_is_row) (ok_is_row U_is_row T C_is_whole) fun _ _ _ _ _ _ us hl i hi => bk_is_row us hl i hi
  have C_divisor_of : At l.prog w K mg base 1 "divisor_of" ["numbers"] F_divisor_of := at_mk U_divisor_of (PySem.W.mg_of X G a_divisor_of) (ok_divisor_of U_divisor_of T ) fun _ _ _ _ _ _ us hl i hi => bk_divisor_of us hl i hi
  have C_is_reduced_row : At l.prog w K mg base 3 "is_reduced_row" ["value", "many"] F_is_reduced_row := at_mk U_is_reduced_row (PySem.W.mg_of X G a_is_reduced_row) (ok_is_reduced_row U_is_reduced_row T C_divisor_of C_is_row) fun _ _ _ _ _ _ us hl i hi => bk_is_reduced_row us hl i hi
  have C_reduced : At l.prog w K mg base 2 "reduced" ["numbers"] F_reduced := at_mk U_reduced (PySem.W.mg_of X G a_reduced) (ok_reduced U_reduced T C_divisor_of) fun _ _ _ _ _ _ us hl i hi => bk_reduced us hl i hi
  have C_dot : At l.prog w K mg base 1 "dot" ["row", "other"] F_dot := at_mk U_dot (PySem.W.mg_of X G a_dot) (ok_dot U_dot T ) fun _ _ _ _ _ _ us hl i hi => bk_dot us hl i hi
  have C_combined : At l.prog w K mg base 1 "combined" ["one", "row", "two", "other"] F_combined := at_mk U_combined (PySem.W.mg_of X G a_combined) (ok_combined U_combined T ) fun _ _ _ _ _ _ us hl i hi => bk_combined us hl i hi
  have C_ratio : At l.prog w K mg base 1 "ratio" ["p", "q"] F_ratio := at_mk U_ratio (PySem.W.mg_of X G a_ratio) (ok_ratio U_ratio T ) fun _ _ _ _ _ _ us hl i hi => bk_ratio us hl i hi
  have C_is_fraction : At l.prog w K mg base 4 "is_fraction" ["value"] F_is_fraction := at_mk U_is_fraction (PySem.W.mg_of X G a_is_fraction) (ok_is_fraction U_is_fraction T C_is_reduced_row) fun _ _ _ _ _ _ us hl i hi => bk_is_fraction us hl i hi
  have C_check_positive_fraction : At l.prog w K mg base 5 "check_positive_fraction" ["value"] F_check_positive_fraction := at_mk U_check_positive_fraction (PySem.W.mg_of X G a_check_positive_fraction) (ok_check_positive_fraction U_check_positive_fraction T C_is_fraction) fun _ _ _ _ _ _ us hl i hi => bk_check_positive_fraction us hl i hi
  have C_crossed : At l.prog w K mg base 2 "crossed" ["row", "other"] F_crossed := at_mk U_crossed (PySem.W.mg_of X G a_crossed) (ok_crossed U_crossed T C_dot) fun _ _ _ _ _ _ us hl i hi => bk_crossed us hl i hi
  have C_in_cone : At l.prog w K mg base 3 "in_cone" ["row"] F_in_cone := at_mk U_in_cone (PySem.W.mg_of X G a_in_cone) (ok_in_cone U_in_cone T C_crossed) fun _ _ _ _ _ _ us hl i hi => bk_in_cone us hl i hi
  have C_is_light : At l.prog w K mg base 4 "is_light" ["value"] F_is_light := at_mk U_is_light (PySem.W.mg_of X G a_is_light) (ok_is_light U_is_light T C_in_cone C_is_reduced_row) fun _ _ _ _ _ _ us hl i hi => bk_is_light us hl i hi
  have C_is_kind : At l.prog w K mg base 4 "is_kind" ["value"] F_is_kind := at_mk U_is_kind (PySem.W.mg_of X G a_is_kind) (ok_is_kind U_is_kind T C_dot C_is_reduced_row) fun _ _ _ _ _ _ us hl i hi => bk_is_kind us hl i hi
  have C_check_light : At l.prog w K mg base 5 "check_light" ["value"] F_check_light := at_mk U_check_light (PySem.W.mg_of X G a_check_light) (ok_check_light U_check_light T C_is_light) fun _ _ _ _ _ _ us hl i hi => bk_check_light us hl i hi
  have C_check_kind : At l.prog w K mg base 5 "check_kind" ["value"] F_check_kind := at_mk U_check_kind (PySem.W.mg_of X G a_check_kind) (ok_check_kind U_check_kind T C_is_kind) fun _ _ _ _ _ _ us hl i hi => bk_check_kind us hl i hi
  have C_added : At l.prog w K mg base 6 "added" ["light", "other"] F_added := at_mk U_added (PySem.W.mg_of X G a_added) (ok_added U_added T C_check_light C_combined C_reduced) fun _ _ _ _ _ _ us hl i hi => bk_added us hl i hi
  have C_times : At l.prog w K mg base 6 "times" ["light", "part"] F_times := at_mk U_times (PySem.W.mg_of X G a_times) (ok_times U_times T C_check_light C_check_positive_fraction C_reduced) fun _ _ _ _ _ _ us hl i hi => bk_times us hl i hi
  have C_kind_of : At l.prog w K mg base 6 "kind_of" ["light"] F_kind_of := at_mk U_kind_of (PySem.W.mg_of X G a_kind_of) (ok_kind_of U_kind_of T C_check_light C_crossed C_reduced) fun _ _ _ _ _ _ us hl i hi => bk_kind_of us hl i hi
  have C_pure_light : At l.prog w K mg base 6 "pure_light" ["kind"] F_pure_light := at_mk U_pure_light (PySem.W.mg_of X G a_pure_light) (ok_pure_light U_pure_light T C_check_kind) fun _ _ _ _ _ _ us hl i hi => bk_pure_light us hl i hi
  have C_product : At l.prog w K mg base 6 "product" ["light", "other"] F_product := at_mk U_product (PySem.W.mg_of X G a_product) (ok_product U_product T C_check_light C_crossed C_ratio) fun _ _ _ _ _ _ us hl i hi => bk_product us hl i hi
  have C_split : At l.prog w K mg base 6 "split" ["light", "kind"] F_split := at_mk U_split (PySem.W.mg_of X G a_split) (ok_split U_split T C_check_kind C_check_light C_combined C_crossed C_reduced) fun _ _ _ _ _ _ us hl i hi => bk_split us hl i hi
  have C__law_tap : At l.prog w K mg base 1 "_law_tap" ["_law_script", "_law_turn"] F__law_tap := at_mk U__law_tap (PySem.W.mg_of X G a__law_tap) (ok__law_tap U__law_tap T ) fun _ _ _ _ _ _ us hl i hi => bk__law_tap us hl i hi
  have C__law_from : At l.prog w K mg base 1 "_law_from" ["_law_tap_here", "_law_many"] F__law_from := at_mk U__law_from (PySem.W.mg_of X G a__law_from) (ok__law_from U__law_from T ) fun _ _ _ _ _ _ us hl i hi => bk__law_from us hl i hi
  have C__law_turns : At l.prog w K mg base 1 "_law_turns" ["_law_script", "_law_most"] F__law_turns := at_mk U__law_turns (PySem.W.mg_of X G a__law_turns) (ok__law_turns U__law_turns T ) fun _ _ _ _ _ _ us hl i hi => bk__law_turns us hl i hi
  have C__law_pick : At l.prog w K mg base 2 "_law_pick" ["_law_tap_here", "_law_some"] F__law_pick := at_mk U__law_pick (PySem.W.mg_of X G a__law_pick) (ok__law_pick U__law_pick T C__law_from) fun _ _ _ _ _ _ us hl i hi => bk__law_pick us hl i hi
  have C__law_low : At l.prog w K mg base 2 "_law_low" ["_law_tap_here"] F__law_low := at_mk U__law_low (PySem.W.mg_of X G a__law_low) (ok__law_low U__law_low T C__law_from) fun _ _ _ _ _ _ us hl i hi => bk__law_low us hl i hi
  have C__law_common : At l.prog w K mg base 1 "_law_common" ["_law_numbers"] F__law_common := at_mk U__law_common (PySem.W.mg_of X G a__law_common) (ok__law_common U__law_common T ) fun _ _ _ _ _ _ us hl i hi => bk__law_common us hl i hi
  have C__law_least : At l.prog w K mg base 2 "_law_least" ["_law_numbers"] F__law_least := at_mk U__law_least (PySem.W.mg_of X G a__law_least) (ok__law_least U__law_least T C__law_common) fun _ _ _ _ _ _ us hl i hi => bk__law_least us hl i hi
  have C__law_ratio : At l.prog w K mg base 3 "_law_ratio" ["_law_p", "_law_q"] F__law_ratio := at_mk U__law_ratio (PySem.W.mg_of X G a__law_ratio) (ok__law_ratio U__law_ratio T C__law_least) fun _ _ _ _ _ _ us hl i hi => bk__law_ratio us hl i hi
  have C__law_plus : At l.prog w K mg base 4 "_law_plus" ["_law_one", "_law_two"] F__law_plus := at_mk U__law_plus (PySem.W.mg_of X G a__law_plus) (ok__law_plus U__law_plus T C__law_ratio) fun _ _ _ _ _ _ us hl i hi => bk__law_plus us hl i hi
  have C__law_by : At l.prog w K mg base 4 "_law_by" ["_law_one", "_law_two"] F__law_by := at_mk U__law_by (PySem.W.mg_of X G a__law_by) (ok__law_by U__law_by T C__law_ratio) fun _ _ _ _ _ _ us hl i hi => bk__law_by us hl i hi
  have C__law_root : At l.prog w K mg base 1 "_law_root" ["_law_number"] F__law_root := at_mk U__law_root (PySem.W.mg_of X G a__law_root) (ok__law_root U__law_root T ) fun _ _ _ _ _ _ us hl i hi => bk__law_root us hl i hi
  have C__law_are_whole : At l.prog w K mg base 1 "_law_are_whole" ["_law_told"] F__law_are_whole := at_mk U__law_are_whole (PySem.W.mg_of X G a__law_are_whole) (ok__law_are_whole U__law_are_whole T ) fun _ _ _ _ _ _ us hl i hi => bk__law_are_whole us hl i hi
  have C__law_is_row : At l.prog w K mg base 2 "_law_is_row" ["_law_told", "_law_many"] F__law_is_row := at_mk U__law_is_row (PySem.W.mg_of X G a__law_is_row) (ok__law_is_row U__law_is_row T C__law_are_whole C__law_common) fun _ _ _ _ _ _ us hl i hi => bk__law_is_row us hl i hi
  have C__law_cone : At l.prog w K mg base 1 "_law_cone" ["_law_numbers"] F__law_cone := at_mk U__law_cone (PySem.W.mg_of X G a__law_cone) (ok__law_cone U__law_cone T ) fun _ _ _ _ _ _ us hl i hi => bk__law_cone us hl i hi
  have C__law_is_shine : At l.prog w K mg base 3 "_law_is_shine" ["_law_told"] F__law_is_shine := at_mk U__law_is_shine (PySem.W.mg_of X G a__law_is_shine) (ok__law_is_shine U__law_is_shine T C__law_cone C__law_is_row) fun _ _ _ _ _ _ us hl i hi => bk__law_is_shine us hl i hi
  have C__law_dot : At l.prog w K mg base 1 "_law_dot" ["_law_one", "_law_two"] F__law_dot := at_mk U__law_dot (PySem.W.mg_of X G a__law_dot) (ok__law_dot U__law_dot T ) fun _ _ _ _ _ _ us hl i hi => bk__law_dot us hl i hi
  have C__law_hue : At l.prog w K mg base 3 "_law_hue" ["_law_tap_here"] F__law_hue := at_mk U__law_hue (PySem.W.mg_of X G a__law_hue) (ok__law_hue U__law_hue T C__law_from C__law_least C__law_pick) fun _ _ _ _ _ _ us hl i hi => bk__law_hue us hl i hi
  have C__law_shine : At l.prog w K mg base 4 "_law_shine" ["_law_tap_here"] F__law_shine := at_mk U__law_shine (PySem.W.mg_of X G a__law_shine) (ok__law_shine U__law_shine T C__law_dot C__law_from C__law_hue C__law_least C__law_low C__law_pick C__law_root) fun _ _ _ _ _ _ us hl i hi => bk__law_shine us hl i hi
  have C__law_level : At l.prog w K mg base 4 "_law_level" ["_law_tap_here"] F__law_level := at_mk U__law_level (PySem.W.mg_of X G a__law_level) (ok__law_level U__law_level T C__law_from C__law_pick C__law_ratio) fun _ _ _ _ _ _ us hl i hi => bk__law_level us hl i hi
  have C__law_is_multiple : At l.prog w K mg base 3 "_law_is_multiple" ["_law_shine_here", "_law_hue_here"] F__law_is_multiple := at_mk U__law_is_multiple (PySem.W.mg_of X G a__law_is_multiple) (ok__law_is_multiple U__law_is_multiple T C__law_cone C__law_least) fun _ _ _ _ _ _ us hl i hi => bk__law_is_multiple us hl i hi
  have C__law_split_right : At l.prog w K mg base 7 "_law_split_right" ["_law_shine_here", "_law_hue_here"] F__law_split_right := at_mk U__law_split_right (PySem.W.mg_of X G a__law_split_right) (ok__law_split_right U__law_split_right T C__law_by C__law_cone C__law_is_multiple C__law_is_shine C_added C_product C_pure_light C_split C_times) fun _ _ _ _ _ _ us hl i hi => bk__law_split_right us hl i hi
  have C__law_joined_right : At l.prog w K mg base 7 "_law_joined_right" ["_law_tap_here", "_law_hue_here"] F__law_joined_right := at_mk U__law_joined_right (PySem.W.mg_of X G a__law_joined_right) (ok__law_joined_right U__law_joined_right T C__law_hue C__law_level C__law_plus C_added C_pure_light C_split C_times) fun _ _ _ _ _ _ us hl i hi => bk__law_joined_right us hl i hi
  have C__law_right : At l.prog w K mg base 8 "_law_right" ["_law_tap_here"] F__law_right_K06 := at_mk U__law_right (PySem.W.mg_of X G a__law_right) (ok__law_right U__law_right T C__law_hue C__law_joined_right C__law_level C__law_plus C__law_shine C__law_split_right C_kind_of C_split C_times) fun _ _ _ _ _ _ us hl i hi => bk__law_right us hl i hi
  exact ok_law U_law T C__law_right C__law_tap C__law_turns
end K06


set_option Elab.async false
set_option linter.all false
set_option maxRecDepth 100000
set_option maxHeartbeats 1000000
set_option exponentiation.threshold 20000
namespace PL
open PySem PySem.Spec L2 DL
abbrev EachB : FS := (fSeq (fIfS (fNotT (fTru (fCall F__law_split_right (fConsA (fVar 4) (fConsA (fVar 3) fNilA))))) (fRet (fLit (.bool false))) fSkip) (fSeq (fSet 7 (fCall F_split (fConsA (fVar 4) (fConsA (fVar 3) fNilA)))) (fIfS (fTru (fOp gNe (fBi gRepr (fConsA (fCall F_split (fConsA (fCall F_times (fConsA (fVar 4) (fConsA (fVar 6) fNilA))) (fConsA (fVar 3) fNilA))) fNilA)) (fBi gRepr (fConsA (fTup (fConsA (fCall F_times (fConsA (fOp gIx (fVar 7) (fLit (.int 0))) (fConsA (fVar 6) fNilA))) (fConsA (fCall F_times (fConsA (fOp gIx (fVar 7) (fLit (.int 1))) (fConsA (fVar 6) fNilA))) fNilA))) fNilA)))) (fRet (fLit (.bool false))) fSkip)))
theorem each_1 {i q u v n p r a b c d : Int} (x0 x1 x2 x5 x7 : Option SV) (cs : Cs) (h : Lt 60 i q u v n) (f : Fr 60 p r) (p0 : 0 < p) (g : Kd 60 a b c d) : ∃ y7, EachB ⟨[x0, x1, x2, some (.dat (T4 a b c d)), some (.dat (T5 i q u v n)), x5, some (.dat (T2 p r)), x7], cs⟩ = some (.nx ⟨[x0, x1, x2, some (.dat (T4 a b c d)), some (.dat (T5 i q u v n)), x5, some (.dat (T2 p r)), y7], cs⟩) := by
  have e := e_spr h g
  obtain ⟨x, y, z, x', y', t, e1, e2, e3, e4, e5, r1, r2, r3⟩ := e_scale h g f p0
  refine ⟨some (.dat (.tuple [x, y])), ?_⟩
  clear h g f
  simp only [fZip, zipD, gSum, intsOf, List.foldl_cons, List.foldl_nil, mkF, fRet, fRetL, fRetN, fSkip, fSeq, fNever, fSet, fAsg, fNew, fIfS, fDrop, fPar, fPar3, fSetc, fSetc2, fVar, fLit, fOp, fUn, fTup, fTup.datsOf, fLst, fNilA, fConsA, fStarA, fCelA, fOfL, fTru, fAndT, fOrT, fNotT, fAndV, fOrV, fNotV, fIf, fBi, fCall, fCallL, fCallFr, fPerm, callF, celOf, celsOk, norm, aName, aNil, aCons, aTup, setD, fSl, fIt, fItL, fItT, fFor, forGo, fLc, lcGo, fYes, wipeD, fCix, fList, fSlL, fPart, fNoPart, fChain, List.length_cons, List.length_nil, List.getElem?_cons_zero, List.getElem?_cons_succ, List.getElem?_nil, List.set_cons_zero, List.set_cons_succ, List.map_cons, List.map_nil, List.cons_append, List.nil_append, List.append_nil, List.replicate, List.take_zero, List.take_nil, List.take_succ_cons, ↓bsome, ↓msome, Option.bind_some, Option.map_some, Option.bind_none, Option.map_none, Nat.sub_self, Int.cast_ofNat_Int, Nat.reduceAdd, Nat.reduceMul, Nat.reduceSub, Nat.reduceLeDiff, Nat.reduceLT, Nat.zero_add, Nat.add_zero, and_self, and_true, true_and, if_true, if_false, ↓reduceIte, ite_true, Bool.true_eq_false, Bool.false_eq_true, beq_self_eq_true, Bool.and_self, Bool.not_true, Bool.not_false, decide_true, decide_false, gLen, gTyIs, gTyNot, tyOf, gNeg, gPlus, DL.gSub, gCmp, gInt, gAbs, gTuple, gMax, gMin, gGcd, LIM, gIx, e, e1, e2, e3, e4, e5, r1, r2, gIx, ix2_0, ix2_1]
def IsKd (x : PyData) : Prop := ∃ a b c d : Int, x = T4 a b c d ∧ Kd 60 a b c d
theorem each_for {i q u v n p r : Int} (x0 x1 x2 x5 : Option SV) (cs : Cs) (h : Lt 60 i q u v n) (f : Fr 60 p r) (p0 : 0 < p) : ∀ (ks : List PyData) (x3 x7 : Option SV), (∀ x ∈ ks, IsKd x) → ∃ y3 y7, forGo (aName 3) EachB ks ⟨[x0, x1, x2, x3, some (.dat (T5 i q u v n)), x5, some (.dat (T2 p r)), x7], cs⟩ = some (.nx ⟨[x0, x1, x2, y3, some (.dat (T5 i q u v n)), x5, some (.dat (T2 p r)), y7], cs⟩)
  | [], x3, x7, _ => ⟨x3, x7, rfl⟩
  | k :: ks, x3, x7, hk => by
    obtain ⟨a, b, c, d, rfl, g⟩ := hk k List.mem_cons_self
    obtain ⟨z7, e⟩ := each_1 x0 x1 x2 x5 x7 cs h f p0 g
    obtain ⟨y3, y7, ih⟩ := each_for x0 x1 x2 x5 cs h f p0 ks (some (.dat (T4 a b c d))) z7 fun x m => hk x (List.mem_cons_of_mem _ m)
    refine ⟨y3, y7, ?_⟩
    generalize EachB = bb at e ih ⊢
    simp only [forGo, aName, setD, List.set_cons_succ, List.set_cons_zero, Option.bind_some, e]
    exact ih
theorem e_right6 {k : Nat} {t : List PyData} (h : Tap (k + 55) t) : ∃ t', F__law_right_K06 [.cel 0] [t] = some (.dat (.bool true), [t']) := by
  obtain ⟨i, q, u, v, n, t1, e1, h1, l1⟩ := e_shine (k := k + 45) h
  obtain ⟨hq, hu, hv, hn, t2, e2, h2, hk⟩ := e_hue (k := k + 40) h1
  obtain ⟨p9, r9, t3, e3, h3, fr9, p09⟩ := e_level' (k := k + 34) h2
  obtain ⟨p, r, e4, fr, p0⟩ := lvl_plus fr9 p09 (by decide : (0 : Int) < 5) (by decide)
  obtain ⟨t4, e5, h4⟩ := e_joined (k := k + 17) h3 (hk.up (by decide : 30 ≤ 40))
  have hk60 := hk.up (by decide : 30 ≤ 60)
  have e6 := e_spr dark60 hk60
  have kz : Kd 40 0 0 (-1) 1 := ⟨by decide, by decide, by decide, sz_0.by _ (by decide), sz_0.by _ (by decide), sz_1.neg.by _ (by decide), sz_1.by _ (by decide)⟩
  have own : ∃ (w : PyData) (ks : List PyData) (a b c d : Int), F_kind_of [.dat (T5 i q u v n)] [] = some (.dat w, []) ∧ (∀ x ∈ ks, IsKd x) ∧ Kd 40 a b c d ∧ atI ks (-1) = some (T4 a b c d) ∧
      (fIfS (fTru (fOp gNotN (fVar 1) (fLit .none))) (fSet 2 (fOp gPlus (fVar 2) (fOfL (fLst (fConsA (fVar 1) (fConsA (fTup (fConsA (fOp gSub (fLit (.int 0)) (fOp gIx (fVar 1) (fLit (.int 0)))) (fConsA (fOp gSub (fLit (.int 0)) (fOp gIx (fVar 1) (fLit (.int 1)))) (fConsA (fOp gSub (fLit (.int 0)) (fOp gIx (fVar 1) (fLit (.int 2)))) (fConsA (fOp gIx (fVar 1) (fLit (.int 3))) fNilA))))) fNilA)))))) fSkip) ⟨[some (.cel 0), some (.dat w), some (.dat (.list [T4 hq hu hv hn, T4 0 0 (-1) 1])), none, some (.dat (T5 i q u v n)), some (.dat (T4 hq hu hv hn)), some (.dat (T2 p r)), none], [t3]⟩ = some (.nx ⟨[some (.cel 0), some (.dat w), some (.dat (.list ks)), none, some (.dat (T5 i q u v n)), some (.dat (T4 hq hu hv hn)), some (.dat (T2 p r)), none], [t3]⟩) := by
    have b0 : IsKd (T4 hq hu hv hn) := ⟨_, _, _, _, rfl, hk60⟩
    have b1 : IsKd (T4 0 0 (-1) 1) := ⟨_, _, _, _, rfl, kz.up (by decide)⟩
    by_cases hz : i ≠ 0 ∧ i * i - (q * q + u * u + v * v) = 0
    · have ek := e_kindof (l1.up (by decide : 40 ≤ 1000)) hz.1 hz.2
      have i0 := l1.i0
      have hK := kd_R4 (m := 40) (q := q) (u := u) (v := v) (n := i) (by omega) (by omega) l1.sq l1.su l1.sv l1.si
      unfold R4 at ek
      generalize q / mL [q, u, v, i] = a, u / mL [q, u, v, i] = b, v / mL [q, u, v, i] = c, i / mL [q, u, v, i] = d at ek hK
      have b2 : IsKd (T4 a b c d) := ⟨_, _, _, _, rfl, hK.up (by decide)⟩
      have b3 : IsKd (T4 (0 - a) (0 - b) (0 - c) d) := ⟨_, _, _, _, rfl, hK.neg.up (by decide)⟩
      refine ⟨_, [T4 hq hu hv hn, T4 0 0 (-1) 1, T4 a b c d, T4 (0 - a) (0 - b) (0 - c) d], _, _, _, _, ek, fun x m => ?_, hK.neg, rfl, ?_⟩
      · simp only [List.mem_cons, List.not_mem_nil, or_false] at m
        rcases m with rfl | rfl | rfl | rfl <;> assumption
      · have nn : gNotN (T4 a b c d) .none = some (.bool true) := rfl
        clear h h1 h2 h3 h4 l1 hk hk60 kz fr fr9 hz hK b0 b1 b2 b3
        simp only [fZip, zipD, gSum, intsOf, List.foldl_cons, List.foldl_nil, mkF, fRet, fRetL, fRetN, fSkip, fSeq, fNever, fSet, fAsg, fNew, fIfS, fDrop, fPar, fPar3, fSetc, fSetc2, fVar, fLit, fOp, fUn, fTup, fTup.datsOf, fLst, fNilA, fConsA, fStarA, fCelA, fOfL, fTru, fAndT, fOrT, fNotT, fAndV, fOrV, fNotV, fIf, fBi, fCall, fCallL, fCallFr, fPerm, callF, celOf, celsOk, norm, aName, aNil, aCons, aTup, setD, fSl, fIt, fItL, fItT, fFor, forGo, fLc, lcGo, fYes, wipeD, fCix, fList, fSlL, fPart, fNoPart, fChain, List.length_cons, List.length_nil, List.getElem?_cons_zero, List.getElem?_cons_succ, List.getElem?_nil, List.set_cons_zero, List.set_cons_succ, List.map_cons, List.map_nil, List.cons_append, List.nil_append, List.append_nil, List.replicate, List.take_zero, List.take_nil, List.take_succ_cons, ↓bsome, ↓msome, Option.bind_some, Option.map_some, Option.bind_none, Option.map_none, Nat.sub_self, Int.cast_ofNat_Int, Nat.reduceAdd, Nat.reduceMul, Nat.reduceSub, Nat.reduceLeDiff, Nat.reduceLT, Nat.zero_add, Nat.add_zero, and_self, and_true, true_and, if_true, if_false, ↓reduceIte, ite_true, Bool.true_eq_false, Bool.false_eq_true, beq_self_eq_true, Bool.and_self, Bool.not_true, Bool.not_false, decide_true, decide_false, gLen, gTyIs, gTyNot, tyOf, gNeg, gPlus, DL.gSub, gCmp, gInt, gAbs, gTuple, gMax, gMin, gGcd, LIM, gIx, nn, gIx, ix4_0, ix4_1, ix4_2, ix4_3]
    · have hc := l1.cone
      have ek := e_kindof_none (l1.up (by decide : 40 ≤ 1000)) (by
        by_cases hi : i = 0
        · exact .inl hi
        · exact .inr (by
            have : i * i - (q * q + u * u + v * v) ≠ 0 := fun z => hz ⟨hi, z⟩
            omega))
      refine ⟨_, [T4 hq hu hv hn, T4 0 0 (-1) 1], _, _, _, _, ek, fun x m => ?_, kz, rfl, ?_⟩
      · simp only [List.mem_cons, List.not_mem_nil, or_false] at m
        rcases m with rfl | rfl <;> assumption
      · have nn : gNotN .none .none = some (.bool false) := rfl
        clear h h1 h2 h3 h4 l1 hk hk60 kz fr fr9 hz b0 b1
        simp only [fZip, zipD, gSum, intsOf, List.foldl_cons, List.foldl_nil, mkF, fRet, fRetL, fRetN, fSkip, fSeq, fNever, fSet, fAsg, fNew, fIfS, fDrop, fPar, fPar3, fSetc, fSetc2, fVar, fLit, fOp, fUn, fTup, fTup.datsOf, fLst, fNilA, fConsA, fStarA, fCelA, fOfL, fTru, fAndT, fOrT, fNotT, fAndV, fOrV, fNotV, fIf, fBi, fCall, fCallL, fCallFr, fPerm, callF, celOf, celsOk, norm, aName, aNil, aCons, aTup, setD, fSl, fIt, fItL, fItT, fFor, forGo, fLc, lcGo, fYes, wipeD, fCix, fList, fSlL, fPart, fNoPart, fChain, List.length_cons, List.length_nil, List.getElem?_cons_zero, List.getElem?_cons_succ, List.getElem?_nil, List.set_cons_zero, List.set_cons_succ, List.map_cons, List.map_nil, List.cons_append, List.nil_append, List.append_nil, List.replicate, List.take_zero, List.take_nil, List.take_succ_cons, ↓bsome, ↓msome, Option.bind_some, Option.map_some, Option.bind_none, Option.map_none, Nat.sub_self, Int.cast_ofNat_Int, Nat.reduceAdd, Nat.reduceMul, Nat.reduceSub, Nat.reduceLeDiff, Nat.reduceLT, Nat.zero_add, Nat.add_zero, and_self, and_true, true_and, if_true, if_false, ↓reduceIte, ite_true, Bool.true_eq_false, Bool.false_eq_true, beq_self_eq_true, Bool.and_self, Bool.not_true, Bool.not_false, decide_true, decide_false, gLen, gTyIs, gTyNot, tyOf, gNeg, gPlus, DL.gSub, gCmp, gInt, gAbs, gTuple, gMax, gMin, gGcd, LIM, gIx, nn]
  obtain ⟨w, ks, a, b, c, d, ek, hks, gl, el, f3⟩ := own
  obtain ⟨t5, e7, h5⟩ := e_joined (k := k) h4 gl
  obtain ⟨y3, y7, ef⟩ := each_for (some (.cel 0)) (some (.dat w)) (some (.dat (.list ks))) (some (.dat (T4 hq hu hv hn))) [t3] (l1.up (by decide : 40 ≤ 60)) fr p0 ks none none hks
  have f4 : (fFor (fIt (fVar 2)) (aName 3) (fSeq (fIfS (fNotT (fTru (fCall F__law_split_right (fConsA (fVar 4) (fConsA (fVar 3) fNilA))))) (fRet (fLit (.bool false))) fSkip) (fSeq (fSet 7 (fCall F_split (fConsA (fVar 4) (fConsA (fVar 3) fNilA)))) (fIfS (fTru (fOp gNe (fBi gRepr (fConsA (fCall F_split (fConsA (fCall F_times (fConsA (fVar 4) (fConsA (fVar 6) fNilA))) (fConsA (fVar 3) fNilA))) fNilA)) (fBi gRepr (fConsA (fTup (fConsA (fCall F_times (fConsA (fOp gIx (fVar 7) (fLit (.int 0))) (fConsA (fVar 6) fNilA))) (fConsA (fCall F_times (fConsA (fOp gIx (fVar 7) (fLit (.int 1))) (fConsA (fVar 6) fNilA))) fNilA))) fNilA)))) (fRet (fLit (.bool false))) fSkip)))) ⟨[some (.cel 0), some (.dat w), some (.dat (.list ks)), none, some (.dat (T5 i q u v n)), some (.dat (T4 hq hu hv hn)), some (.dat (T2 p r)), none], [t3]⟩ = some (.nx ⟨[some (.cel 0), some (.dat w), some (.dat (.list ks)), y3, some (.dat (T5 i q u v n)), some (.dat (T4 hq hu hv hn)), some (.dat (T2 p r)), y7], [t3]⟩) := by
    unfold fFor
    exact ef
  refine ⟨t5, ?_⟩
  clear h h1 h2 h3 h4 h5 l1 hk hk60 kz fr fr9 gl hks
  have c0 : (fPar3 4 5 6 (fConsA (fCall F__law_shine (fCelA 0 fNilA)) (fConsA (fCall F__law_hue (fCelA 0 fNilA)) (fConsA (fCall F__law_plus (fConsA (fTup (fConsA (fLit (.int 1)) (fConsA (fLit (.int 5)) fNilA))) (fConsA (fCall F__law_level (fCelA 0 fNilA)) fNilA))) fNilA)))) ⟨[some (.cel 0), none, none, none, none, none, none, none], [t]⟩ = some (.nx ⟨[some (.cel 0), none, none, none, some (.dat (T5 i q u v n)), some (.dat (T4 hq hu hv hn)), some (.dat (T2 p r)), none], [t3]⟩) := by
    simp only [fZip, zipD, gSum, intsOf, List.foldl_cons, List.foldl_nil, mkF, fRet, fRetL, fRetN, fSkip, fSeq, fNever, fSet, fAsg, fNew, fIfS, fDrop, fPar, fPar3, fSetc, fSetc2, fVar, fLit, fOp, fUn, fTup, fTup.datsOf, fLst, fNilA, fConsA, fStarA, fCelA, fOfL, fTru, fAndT, fOrT, fNotT, fAndV, fOrV, fNotV, fIf, fBi, fCall, fCallL, fCallFr, fPerm, callF, celOf, celsOk, norm, aName, aNil, aCons, aTup, setD, fSl, fIt, fItL, fItT, fFor, forGo, fLc, lcGo, fYes, wipeD, fCix, fList, fSlL, fPart, fNoPart, fChain, List.length_cons, List.length_nil, List.getElem?_cons_zero, List.getElem?_cons_succ, List.getElem?_nil, List.set_cons_zero, List.set_cons_succ, List.map_cons, List.map_nil, List.cons_append, List.nil_append, List.append_nil, List.replicate, List.take_zero, List.take_nil, List.take_succ_cons, ↓bsome, ↓msome, Option.bind_some, Option.map_some, Option.bind_none, Option.map_none, Nat.sub_self, Int.cast_ofNat_Int, Nat.reduceAdd, Nat.reduceMul, Nat.reduceSub, Nat.reduceLeDiff, Nat.reduceLT, Nat.zero_add, Nat.add_zero, and_self, and_true, true_and, if_true, if_false, ↓reduceIte, ite_true, Bool.true_eq_false, Bool.false_eq_true, beq_self_eq_true, Bool.and_self, Bool.not_true, Bool.not_false, decide_true, decide_false, gLen, gTyIs, gTyNot, tyOf, gNeg, gPlus, DL.gSub, gCmp, gInt, gAbs, gTuple, gMax, gMin, gGcd, LIM, gIx, e1, e2, e3, e4]
  have c1 : (fSet 1 (fCall F_kind_of (fConsA (fVar 4) fNilA))) ⟨[some (.cel 0), none, none, none, some (.dat (T5 i q u v n)), some (.dat (T4 hq hu hv hn)), some (.dat (T2 p r)), none], [t3]⟩ = some (.nx ⟨[some (.cel 0), some (.dat w), none, none, some (.dat (T5 i q u v n)), some (.dat (T4 hq hu hv hn)), some (.dat (T2 p r)), none], [t3]⟩) := by
    simp only [fZip, zipD, gSum, intsOf, List.foldl_cons, List.foldl_nil, mkF, fRet, fRetL, fRetN, fSkip, fSeq, fNever, fSet, fAsg, fNew, fIfS, fDrop, fPar, fPar3, fSetc, fSetc2, fVar, fLit, fOp, fUn, fTup, fTup.datsOf, fLst, fNilA, fConsA, fStarA, fCelA, fOfL, fTru, fAndT, fOrT, fNotT, fAndV, fOrV, fNotV, fIf, fBi, fCall, fCallL, fCallFr, fPerm, callF, celOf, celsOk, norm, aName, aNil, aCons, aTup, setD, fSl, fIt, fItL, fItT, fFor, forGo, fLc, lcGo, fYes, wipeD, fCix, fList, fSlL, fPart, fNoPart, fChain, List.length_cons, List.length_nil, List.getElem?_cons_zero, List.getElem?_cons_succ, List.getElem?_nil, List.set_cons_zero, List.set_cons_succ, List.map_cons, List.map_nil, List.cons_append, List.nil_append, List.append_nil, List.replicate, List.take_zero, List.take_nil, List.take_succ_cons, ↓bsome, ↓msome, Option.bind_some, Option.map_some, Option.bind_none, Option.map_none, Nat.sub_self, Int.cast_ofNat_Int, Nat.reduceAdd, Nat.reduceMul, Nat.reduceSub, Nat.reduceLeDiff, Nat.reduceLT, Nat.zero_add, Nat.add_zero, and_self, and_true, true_and, if_true, if_false, ↓reduceIte, ite_true, Bool.true_eq_false, Bool.false_eq_true, beq_self_eq_true, Bool.and_self, Bool.not_true, Bool.not_false, decide_true, decide_false, gLen, gTyIs, gTyNot, tyOf, gNeg, gPlus, DL.gSub, gCmp, gInt, gAbs, gTuple, gMax, gMin, gGcd, LIM, gIx, ek]
  have c2 : (fSet 2 (fOfL (fLst (fConsA (fVar 5) (fConsA (fTup (fConsA (fLit (.int 0)) (fConsA (fLit (.int 0)) (fConsA (fUn gNeg (fLit (.int 1))) (fConsA (fLit (.int 1)) fNilA))))) fNilA))))) ⟨[some (.cel 0), some (.dat w), none, none, some (.dat (T5 i q u v n)), some (.dat (T4 hq hu hv hn)), some (.dat (T2 p r)), none], [t3]⟩ = some (.nx ⟨[some (.cel 0), some (.dat w), some (.dat (.list [T4 hq hu hv hn, T4 0 0 (-1) 1])), none, some (.dat (T5 i q u v n)), some (.dat (T4 hq hu hv hn)), some (.dat (T2 p r)), none], [t3]⟩) := by
    simp only [fZip, zipD, gSum, intsOf, List.foldl_cons, List.foldl_nil, mkF, fRet, fRetL, fRetN, fSkip, fSeq, fNever, fSet, fAsg, fNew, fIfS, fDrop, fPar, fPar3, fSetc, fSetc2, fVar, fLit, fOp, fUn, fTup, fTup.datsOf, fLst, fNilA, fConsA, fStarA, fCelA, fOfL, fTru, fAndT, fOrT, fNotT, fAndV, fOrV, fNotV, fIf, fBi, fCall, fCallL, fCallFr, fPerm, callF, celOf, celsOk, norm, aName, aNil, aCons, aTup, setD, fSl, fIt, fItL, fItT, fFor, forGo, fLc, lcGo, fYes, wipeD, fCix, fList, fSlL, fPart, fNoPart, fChain, List.length_cons, List.length_nil, List.getElem?_cons_zero, List.getElem?_cons_succ, List.getElem?_nil, List.set_cons_zero, List.set_cons_succ, List.map_cons, List.map_nil, List.cons_append, List.nil_append, List.append_nil, List.replicate, List.take_zero, List.take_nil, List.take_succ_cons, ↓bsome, ↓msome, Option.bind_some, Option.map_some, Option.bind_none, Option.map_none, Nat.sub_self, Int.cast_ofNat_Int, Nat.reduceAdd, Nat.reduceMul, Nat.reduceSub, Nat.reduceLeDiff, Nat.reduceLT, Nat.zero_add, Nat.add_zero, and_self, and_true, true_and, if_true, if_false, ↓reduceIte, ite_true, Bool.true_eq_false, Bool.false_eq_true, beq_self_eq_true, Bool.and_self, Bool.not_true, Bool.not_false, decide_true, decide_false, gLen, gTyIs, gTyNot, tyOf, gNeg, gPlus, DL.gSub, gCmp, gInt, gAbs, gTuple, gMax, gMin, gGcd, LIM, gIx]
  have c3 : (fIfS (fTru (fOp gNotN (fVar 1) (fLit .none))) (fSet 2 (fOp gPlus (fVar 2) (fOfL (fLst (fConsA (fVar 1) (fConsA (fTup (fConsA (fOp gSub (fLit (.int 0)) (fOp gIx (fVar 1) (fLit (.int 0)))) (fConsA (fOp gSub (fLit (.int 0)) (fOp gIx (fVar 1) (fLit (.int 1)))) (fConsA (fOp gSub (fLit (.int 0)) (fOp gIx (fVar 1) (fLit (.int 2)))) (fConsA (fOp gIx (fVar 1) (fLit (.int 3))) fNilA))))) fNilA)))))) fSkip) ⟨[some (.cel 0), some (.dat w), some (.dat (.list [T4 hq hu hv hn, T4 0 0 (-1) 1])), none, some (.dat (T5 i q u v n)), some (.dat (T4 hq hu hv hn)), some (.dat (T2 p r)), none], [t3]⟩ = some (.nx ⟨[some (.cel 0), some (.dat w), some (.dat (.list ks)), none, some (.dat (T5 i q u v n)), some (.dat (T4 hq hu hv hn)), some (.dat (T2 p r)), none], [t3]⟩) := by
    exact f3
  have c4 : (fFor (fIt (fVar 2)) (aName 3) (fSeq (fIfS (fNotT (fTru (fCall F__law_split_right (fConsA (fVar 4) (fConsA (fVar 3) fNilA))))) (fRet (fLit (.bool false))) fSkip) (fSeq (fSet 7 (fCall F_split (fConsA (fVar 4) (fConsA (fVar 3) fNilA)))) (fIfS (fTru (fOp gNe (fBi gRepr (fConsA (fCall F_split (fConsA (fCall F_times (fConsA (fVar 4) (fConsA (fVar 6) fNilA))) (fConsA (fVar 3) fNilA))) fNilA)) (fBi gRepr (fConsA (fTup (fConsA (fCall F_times (fConsA (fOp gIx (fVar 7) (fLit (.int 0))) (fConsA (fVar 6) fNilA))) (fConsA (fCall F_times (fConsA (fOp gIx (fVar 7) (fLit (.int 1))) (fConsA (fVar 6) fNilA))) fNilA))) fNilA)))) (fRet (fLit (.bool false))) fSkip)))) ⟨[some (.cel 0), some (.dat w), some (.dat (.list ks)), none, some (.dat (T5 i q u v n)), some (.dat (T4 hq hu hv hn)), some (.dat (T2 p r)), none], [t3]⟩ = some (.nx ⟨[some (.cel 0), some (.dat w), some (.dat (.list ks)), y3, some (.dat (T5 i q u v n)), some (.dat (T4 hq hu hv hn)), some (.dat (T2 p r)), y7], [t3]⟩) := by
    exact f4
  have c5 : (fIfS (fOrT (fNotT (fTru (fCall F__law_split_right (fConsA (fTup (fConsA (fLit (.int 0)) (fConsA (fLit (.int 0)) (fConsA (fLit (.int 0)) (fConsA (fLit (.int 0)) (fConsA (fLit (.int 1)) fNilA)))))) (fConsA (fVar 5) fNilA))))) (fNotT (fTru (fCall F__law_joined_right (fCelA 0 (fConsA (fVar 5) fNilA)))))) (fRet (fLit (.bool false))) fSkip) ⟨[some (.cel 0), some (.dat w), some (.dat (.list ks)), y3, some (.dat (T5 i q u v n)), some (.dat (T4 hq hu hv hn)), some (.dat (T2 p r)), y7], [t3]⟩ = some (.nx ⟨[some (.cel 0), some (.dat w), some (.dat (.list ks)), y3, some (.dat (T5 i q u v n)), some (.dat (T4 hq hu hv hn)), some (.dat (T2 p r)), y7], [t4]⟩) := by
    simp only [fZip, zipD, gSum, intsOf, List.foldl_cons, List.foldl_nil, mkF, fRet, fRetL, fRetN, fSkip, fSeq, fNever, fSet, fAsg, fNew, fIfS, fDrop, fPar, fPar3, fSetc, fSetc2, fVar, fLit, fOp, fUn, fTup, fTup.datsOf, fLst, fNilA, fConsA, fStarA, fCelA, fOfL, fTru, fAndT, fOrT, fNotT, fAndV, fOrV, fNotV, fIf, fBi, fCall, fCallL, fCallFr, fPerm, callF, celOf, celsOk, norm, aName, aNil, aCons, aTup, setD, fSl, fIt, fItL, fItT, fFor, forGo, fLc, lcGo, fYes, wipeD, fCix, fList, fSlL, fPart, fNoPart, fChain, List.length_cons, List.length_nil, List.getElem?_cons_zero, List.getElem?_cons_succ, List.getElem?_nil, List.set_cons_zero, List.set_cons_succ, List.map_cons, List.map_nil, List.cons_append, List.nil_append, List.append_nil, List.replicate, List.take_zero, List.take_nil, List.take_succ_cons, ↓bsome, ↓msome, Option.bind_some, Option.map_some, Option.bind_none, Option.map_none, Nat.sub_self, Int.cast_ofNat_Int, Nat.reduceAdd, Nat.reduceMul, Nat.reduceSub, Nat.reduceLeDiff, Nat.reduceLT, Nat.zero_add, Nat.add_zero, and_self, and_true, true_and, if_true, if_false, ↓reduceIte, ite_true, Bool.true_eq_false, Bool.false_eq_true, beq_self_eq_true, Bool.and_self, Bool.not_true, Bool.not_false, decide_true, decide_false, gLen, gTyIs, gTyNot, tyOf, gNeg, gPlus, DL.gSub, gCmp, gInt, gAbs, gTuple, gMax, gMin, gGcd, LIM, gIx, e5, e6]
  have c6 : (fRet (fCall F__law_joined_right (fCelA 0 (fConsA (fOp gIx (fVar 2) (fUn gNeg (fLit (.int 1)))) fNilA)))) ⟨[some (.cel 0), some (.dat w), some (.dat (.list ks)), y3, some (.dat (T5 i q u v n)), some (.dat (T4 hq hu hv hn)), some (.dat (T2 p r)), y7], [t4]⟩ = some (.rt (.dat (.bool true)) [t5]) := by
    simp only [fZip, zipD, gSum, intsOf, List.foldl_cons, List.foldl_nil, mkF, fRet, fRetL, fRetN, fSkip, fSeq, fNever, fSet, fAsg, fNew, fIfS, fDrop, fPar, fPar3, fSetc, fSetc2, fVar, fLit, fOp, fUn, fTup, fTup.datsOf, fLst, fNilA, fConsA, fStarA, fCelA, fOfL, fTru, fAndT, fOrT, fNotT, fAndV, fOrV, fNotV, fIf, fBi, fCall, fCallL, fCallFr, fPerm, callF, celOf, celsOk, norm, aName, aNil, aCons, aTup, setD, fSl, fIt, fItL, fItT, fFor, forGo, fLc, lcGo, fYes, wipeD, fCix, fList, fSlL, fPart, fNoPart, fChain, List.length_cons, List.length_nil, List.getElem?_cons_zero, List.getElem?_cons_succ, List.getElem?_nil, List.set_cons_zero, List.set_cons_succ, List.map_cons, List.map_nil, List.cons_append, List.nil_append, List.append_nil, List.replicate, List.take_zero, List.take_nil, List.take_succ_cons, ↓bsome, ↓msome, Option.bind_some, Option.map_some, Option.bind_none, Option.map_none, Nat.sub_self, Int.cast_ofNat_Int, Nat.reduceAdd, Nat.reduceMul, Nat.reduceSub, Nat.reduceLeDiff, Nat.reduceLT, Nat.zero_add, Nat.add_zero, and_self, and_true, true_and, if_true, if_false, ↓reduceIte, ite_true, Bool.true_eq_false, Bool.false_eq_true, beq_self_eq_true, Bool.and_self, Bool.not_true, Bool.not_false, decide_true, decide_false, gLen, gTyIs, gTyNot, tyOf, gNeg, gPlus, DL.gSub, gCmp, gInt, gAbs, gTuple, gMax, gMin, gGcd, LIM, gIx, el, e7]
  exact fn_ok (np := 1) (nN := 8) (n0 := 1) ((seq_nx c0).trans ((seq_nx c1).trans ((seq_nx c2).trans ((seq_nx c3).trans ((seq_nx c4).trans ((seq_nx c5).trans (c6))))))) ⟨rfl, rfl⟩ rfl
theorem math_K06 (ns : List Int) (hl : ns.length ≤ 63) : ∃ c, F_law_K06 [.dat (.list (ns.map PyData.int))] [] = some (.dat (.bool true), c) :=
  law_ok (FR := F__law_right_K06) (m := 4) (by decide) (by decide) (fun t ht => by
    obtain ⟨t', e⟩ := e_right6 (k := 0) (ht.le (by decide))
    exact ⟨_, e⟩) ns
end PL


set_option Elab.async false
set_option linter.all false
open PySem PySem.W PyProof.Rows
set_option maxRecDepth 100000 in
set_option maxHeartbeats 0 in
theorem PySem.Challenge.cw_platelights_k06_whole_lights_split_by_a_holds : PySem.Challenge.rw_platelights_k06_whole_lights_split_by_a.Holds := by
  w_on; o_law; k_head; (case hw => w_witness2)
  k_fill
  refine DL.walk_G (l := PySem.Challenge.rw_platelights_k06_whole_lights_split_by_a) (n := 63) (k := 9) (x := "_law_script") rfl (by decide) rfl ⟨rfl, by decide, by decide⟩ (fun w h Y => PySem.W.kIn_of Y) ?F (fun ns hl => PL.math_K06 ns hl)
  case F =>
    intro w mg fa h KX G hmg
    refine' K06.all_mk KX G hmg ?a_is_whole ?l_is_whole ?c_is_whole ?k_is_whole ?a_is_row ?l_is_row ?c_is_row ?k_is_row ?a_divisor_of ?l_divisor_of ?c_divisor_of ?k_divisor_of ?a_is_reduced_row ?l_is_reduced_row ?c_is_reduced_row ?k_is_reduced_row ?a_reduced ?l_reduced ?c_reduced ?k_reduced ?a_dot ?l_dot ?c_dot ?k_dot ?a_combined ?l_combined ?c_combined ?k_combined ?a_ratio ?l_ratio ?c_ratio ?k_ratio ?a_is_fraction ?l_is_fraction ?c_is_fraction ?k_is_fraction ?a_check_positive_fraction ?l_check_positive_fraction ?c_check_positive_fraction ?k_check_positive_fraction ?a_crossed ?l_crossed ?c_crossed ?k_crossed ?a_in_cone ?l_in_cone ?c_in_cone ?k_in_cone ?a_is_light ?l_is_light ?c_is_light ?k_is_light ?a_is_kind ?l_is_kind ?c_is_kind ?k_is_kind ?a_check_light ?l_check_light ?c_check_light ?k_check_light ?a_check_kind ?l_check_kind ?c_check_kind ?k_check_kind ?a_added ?l_added ?c_added ?k_added ?a_times ?l_times ?c_times ?k_times ?a_kind_of ?l_kind_of ?c_kind_of ?k_kind_of ?a_pure_light ?l_pure_light ?c_pure_light ?k_pure_light ?a_product ?l_product ?c_product ?k_product ?a_split ?l_split ?c_split ?k_split ?a__law_tap ?l__law_tap ?c__law_tap ?k__law_tap ?a__law_from ?l__law_from ?c__law_from ?k__law_from ?a__law_turns ?l__law_turns ?c__law_turns ?k__law_turns ?a__law_pick ?l__law_pick ?c__law_pick ?k__law_pick ?a__law_low ?l__law_low ?c__law_low ?k__law_low ?a__law_common ?l__law_common ?c__law_common ?k__law_common ?a__law_least ?l__law_least ?c__law_least ?k__law_least ?a__law_ratio ?l__law_ratio ?c__law_ratio ?k__law_ratio ?a__law_plus ?l__law_plus ?c__law_plus ?k__law_plus ?a__law_by ?l__law_by ?c__law_by ?k__law_by ?a__law_root ?l__law_root ?c__law_root ?k__law_root ?a__law_are_whole ?l__law_are_whole ?c__law_are_whole ?k__law_are_whole ?a__law_is_row ?l__law_is_row ?c__law_is_row ?k__law_is_row ?a__law_cone ?l__law_cone ?c__law_cone ?k__law_cone ?a__law_is_shine ?l__law_is_shine ?c__law_is_shine ?k__law_is_shine ?a__law_dot ?l__law_dot ?c__law_dot ?k__law_dot ?a__law_hue ?l__law_hue ?c__law_hue ?k__law_hue ?a__law_shine ?l__law_shine ?c__law_shine ?k__law_shine ?a__law_level ?l__law_level ?c__law_level ?k__law_level ?a__law_is_multiple ?l__law_is_multiple ?c__law_is_multiple ?k__law_is_multiple ?a__law_split_right ?l__law_split_right ?c__law_split_right ?k__law_split_right ?a__law_joined_right ?l__law_joined_right ?c__law_joined_right ?k__law_joined_right ?a__law_right ?l__law_right ?c__law_right ?k__law_right ?a_law ?l_law ?c_law ?k_law ?z_gcd ?z_abs ?z_all ?z_bool ?z_divmod ?z_int ?z_isinstance ?z_len ?z_max ?z_min ?z_range ?z_repr ?z_sum ?z_tuple ?z_type ?z_zip ?y__DARK ?t_q_DARK5
    (case a_is_whole => k_is)
    (case l_is_whole => k_is)
    (case c_is_whole => k_is)
    (case k_is_whole => k_is)
    (case a_is_row => k_is)
    (case l_is_row => k_is)
    (case c_is_row => k_is)
    (case k_is_row => k_is)
    (case a_divisor_of => k_is)
    (case l_divisor_of => k_is)
    (case c_divisor_of => k_is)
    (case k_divisor_of => k_is)
    (case a_is_reduced_row => k_is)
    (case l_is_reduced_row => k_is)
    (case c_is_reduced_row => k_is)
    (case k_is_reduced_row => k_is)
    (case a_reduced => k_is)
    (case l_reduced => k_is)
    (case c_reduced => k_is)
    (case k_reduced => k_is)
    (case a_dot => k_is)
    (case l_dot => k_is)
    (case c_dot => k_is)
    (case k_dot => k_is)
    (case a_combined => k_is)
    (case l_combined => k_is)
    (case c_combined => k_is)
    (case k_combined => k_is)
    (case a_ratio => k_is)
    (case l_ratio => k_is)
    (case c_ratio => k_is)
    (case k_ratio => k_is)
    (case a_is_fraction => k_is)
    (case l_is_fraction => k_is)
    (case c_is_fraction => k_is)
    (case k_is_fraction => k_is)
    (case a_check_positive_fraction => k_is)
    (case l_check_positive_fraction => k_is)
    (case c_check_positive_fraction => k_is)
    (case k_check_positive_fraction => k_is)
    (case a_crossed => k_is)
    (case l_crossed => k_is)
    (case c_crossed => k_is)
    (case k_crossed => k_is)
    (case a_in_cone => k_is)
    (case l_in_cone => k_is)
    (case c_in_cone => k_is)
    (case k_in_cone => k_is)
    (case a_is_light => k_is)
    (case l_is_light => k_is)
    (case c_is_light => k_is)
    (case k_is_light => k_is)
    (case a_is_kind => k_is)
    (case l_is_kind => k_is)
    (case c_is_kind => k_is)
    (case k_is_kind => k_is)
    (case a_check_light => k_is)
    (case l_check_light => k_is)
    (case c_check_light => k_is)
    (case k_check_light => k_is)
    (case a_check_kind => k_is)
    (case l_check_kind => k_is)
    (case c_check_kind => k_is)
    (case k_check_kind => k_is)
    (case a_added => k_is)
    (case l_added => k_is)
    (case c_added => k_is)
    (case k_added => k_is)
    (case a_times => k_is)
    (case l_times => k_is)
    (case c_times => k_is)
    (case k_times => k_is)
    (case a_kind_of => k_is)
    (case l_kind_of => k_is)
    (case c_kind_of => k_is)
    (case k_kind_of => k_is)
    (case a_pure_light => k_is)
    (case l_pure_light => k_is)
    (case c_pure_light => k_is)
    (case k_pure_light => k_is)
    (case a_product => k_is)
    (case l_product => k_is)
    (case c_product => k_is)
    (case k_product => k_is)
    (case a_split => k_is)
    (case l_split => k_is)
    (case c_split => k_is)
    (case k_split => k_is)
    (case a__law_tap => k_is)
    (case l__law_tap => k_is)
    (case c__law_tap => k_is)
    (case k__law_tap => k_is)
    (case a__law_from => k_is)
    (case l__law_from => k_is)
    (case c__law_from => k_is)
    (case k__law_from => k_is)
    (case a__law_turns => k_is)
    (case l__law_turns => k_is)
    (case c__law_turns => k_is)
    (case k__law_turns => k_is)
    (case a__law_pick => k_is)
    (case l__law_pick => k_is)
    (case c__law_pick => k_is)
    (case k__law_pick => k_is)
    (case a__law_low => k_is)
    (case l__law_low => k_is)
    (case c__law_low => k_is)
    (case k__law_low => k_is)
    (case a__law_common => k_is)
    (case l__law_common => k_is)
    (case c__law_common => k_is)
    (case k__law_common => k_is)
    (case a__law_least => k_is)
    (case l__law_least => k_is)
    (case c__law_least => k_is)
    (case k__law_least => k_is)
    (case a__law_ratio => k_is)
    (case l__law_ratio => k_is)
    (case c__law_ratio => k_is)
    (case k__law_ratio => k_is)
    (case a__law_plus => k_is)
    (case l__law_plus => k_is)
    (case c__law_plus => k_is)
    (case k__law_plus => k_is)
    (case a__law_by => k_is)
    (case l__law_by => k_is)
    (case c__law_by => k_is)
    (case k__law_by => k_is)
    (case a__law_root => k_is)
    (case l__law_root => k_is)
    (case c__law_root => k_is)
    (case k__law_root => k_is)
    (case a__law_are_whole => k_is)
    (case l__law_are_whole => k_is)
    (case c__law_are_whole => k_is)
    (case k__law_are_whole => k_is)
    (case a__law_is_row => k_is)
    (case l__law_is_row => k_is)
    (case c__law_is_row => k_is)
    (case k__law_is_row => k_is)
    (case a__law_cone => k_is)
    (case l__law_cone => k_is)
    (case c__law_cone => k_is)
    (case k__law_cone => k_is)
    (case a__law_is_shine => k_is)
    (case l__law_is_shine => k_is)
    (case c__law_is_shine => k_is)
    (case k__law_is_shine => k_is)
    (case a__law_dot => k_is)
    (case l__law_dot => k_is)
    (case c__law_dot => k_is)
    (case k__law_dot => k_is)
    (case a__law_hue => k_is)
    (case l__law_hue => k_is)
    (case c__law_hue => k_is)
    (case k__law_hue => k_is)
    (case a__law_shine => k_is)
    (case l__law_shine => k_is)
    (case c__law_shine => k_is)
    (case k__law_shine => k_is)
    (case a__law_level => k_is)
    (case l__law_level => k_is)
    (case c__law_level => k_is)
    (case k__law_level => k_is)
    (case a__law_is_multiple => k_is)
    (case l__law_is_multiple => k_is)
    (case c__law_is_multiple => k_is)
    (case k__law_is_multiple => k_is)
    (case a__law_split_right => k_is)
    (case l__law_split_right => k_is)
    (case c__law_split_right => k_is)
    (case k__law_split_right => k_is)
    (case a__law_joined_right => k_is)
    (case l__law_joined_right => k_is)
    (case c__law_joined_right => k_is)
    (case k__law_joined_right => k_is)
    (case a__law_right => k_is)
    (case l__law_right => k_is)
    (case c__law_right => k_is)
    (case k__law_right => k_is)
    (case a_law => k_is)
    (case l_law => k_is)
    (case c_law => k_is)
    (case k_law => k_is)
    (case z_gcd => k_is)
    (case z_abs => k_is)
    (case z_all => k_is)
    (case z_bool => k_is)
    (case z_divmod => k_is)
    (case z_int => k_is)
    (case z_isinstance => k_is)
    (case z_len => k_is)
    (case z_max => k_is)
    (case z_min => k_is)
    (case z_range => k_is)
    (case z_repr => k_is)
    (case z_sum => k_is)
    (case z_tuple => k_is)
    (case z_type => k_is)
    (case z_zip => k_is)
    (case y__DARK => k_is)
    (case t_q_DARK5 => k_is)

