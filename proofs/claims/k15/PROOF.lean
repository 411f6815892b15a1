import PyProof.Rows.All
import Wide.All
import OpenK.AllK
import Wide.FinOn
import HandS.DictComp
import HandS.ForList
import HandS.ForMost
import HandS.TupSets
import PyProof.WalksMore
import PyProof.TupleIter
import HandS.Codes
import HandS.WideBits
import HandS.IsInst
import HandS.OwnEq
import HandS.TupAny
import HandS.Sort
import HandS.Conv
import HandS.SortInts
import HandS.SortRule
import KE.SortData
import KE.LtSeq
import HandS.Iter
import HandS.Dict
import KE.GoesEnum
import KE.KIndexOf
import HandS.More
import HandS.SortKw
import HandS.Comp
import HandS.Rev
import HandS.ForExc
import KE.KExcIs
import HandS.ExcOwn
import HandS.SetFor
import HandS.Gcd
import HandS.Deep
import HandS.Walk
import HandS.Wide
import HandS.ExcCtx
import HandS.HotCalls
import PySem.Challenge.RW_evenorders_k15_whole_shares_of_places
set_option Elab.async false
set_option linter.all false
set_option maxRecDepth 100000
set_option maxHeartbeats 8000000
namespace Ev
open PySem L2
section
variable {K : PySem.W.Frag}
/-- a dict comprehension over a list that stays -/
theorem dc_list {a : Addr} {xs : List V} {g : TG} {tt : TT} {tk tv : TE} {vs : List Nat} {σ : L2.St} {H1 : Hp} {D : Addr} {Qd : Hp → Prop} (Pv : Nat → Hp → Prop) (h0 : Pv 0 (upd H1 D (.dK []))) (hl : ∀ i H, i ≤ xs.length → Pv i H → SqL K H a xs)
    (hs : ∀ i x H, xs[i]? = some x → Pv i H → g x (wipe σ vs) H fun σ2 H2 => wipe σ2 vs = wipe σ vs ∧ tt σ2 H2 fun b H3 =>
      if b = true then tk σ2 H3 fun y H4 => tv σ2 H4 fun z H5 => ∃ kvs k, y = kV k ∧ H5 D = some (.dK kvs) ∧ kvs.length < sizeLine ∧ Pv (i + 1) (upd H5 D (.dK (putK kvs k z))) else Pv (i + 1) H3) (hd : ∀ H, Pv xs.length H → Qd H) :
    ∃ W : Nat → Nat → Hp → Prop, (∃ m, W 0 m (upd H1 D (.dK []))) ∧ ∀ i m H, W i m H →
      ((Itl K a).stop i H ∧ Qd H) ∨ ((Itl K a).go i H ∧ ∃ Nx : Hp → Prop, (∀ H', Nx H' → ∃ m', m' < m ∧ W (i + 1) m' H') ∧ ∀ x H', (Itl K a).yld i H x H' → g x (wipe σ vs) H' fun σ2 H2 => wipe σ2 vs = wipe σ vs ∧ tt σ2 H2 fun b H3 =>
        if b = true then tk σ2 H3 fun y H4 => tv σ2 H4 fun z H5 => ∃ kvs k, y = kV k ∧ H5 D = some (.dK kvs) ∧ kvs.length < sizeLine ∧ Nx (upd H5 D (.dK (putK kvs k z))) else Nx H3) := by
  refine ⟨fun i m H => m = xs.length - i ∧ i ≤ xs.length ∧ Pv i H, ⟨xs.length, by simp, Nat.zero_le _, h0⟩, ?_⟩
  rintro i m H ⟨rfl, hi, p⟩
  have q := hl i H hi p
  by_cases hlt : i < xs.length
  · refine .inr ⟨⟨xs, xs[i], q, by simp [hlt]⟩, Pv (i + 1), fun H' p' => ⟨xs.length - (i + 1), by omega, rfl, hlt, p'⟩, fun x H' y => ?_⟩
    obtain ⟨e, y⟩ := y
    subst e
    exact hs i x _ (y xs q) p
  · have e : i = xs.length := by omega
    subst e
    exact .inl ⟨⟨xs, q, Nat.le_refl _⟩, hd H p⟩
end
end Ev

namespace Ev
abbrev Pr := Int × Int
def code (p : Pr) : Int := p.1 * 64 + p.2
/-- names below n -/
def In (n : Int) (ps : List Pr) : Prop := ∀ p ∈ ps, 0 ≤ p.1 ∧ p.1 < n ∧ 0 ≤ p.2 ∧ p.2 < n
def asc (ps : List Pr) : Prop := ps.Pairwise (fun p q => code p < code q)
theorem In.mono {n m : Int} {ps : List Pr} (h : In n ps) (l : n ≤ m) : In m ps := fun p hp => by
  have := h p hp
  omega
theorem In.sub {n : Int} {ps qs : List Pr} (h : In n ps) (l : ∀ q ∈ qs, q ∈ ps) : In n qs := fun p hp => h p (l p hp)
theorem code_inj {p q : Pr} (h1 : 0 ≤ p.2 ∧ p.2 < 64) (h2 : 0 ≤ q.2 ∧ q.2 < 64) (e : code p = code q) : p = q := by
  obtain ⟨a, b⟩ := p
  obtain ⟨c, d⟩ := q
  simp only [code] at e h1 h2
  have : a = c := by omega
  have : b = d := by omega
  simp [*]
theorem asc_nodup {ps : List Pr} (h : asc ps) : ps.Nodup := h.imp (fun {p q} l e => by subst e; omega)
/-- two ascending rows with the same items are one -/
theorem asc_eq : ∀ {ps qs : List Pr}, asc ps → asc qs → (∀ p, p ∈ ps ↔ p ∈ qs) → ps = qs
  | [], [], _, _, _ => rfl
  | [], q :: qs, _, _, h => absurd ((h q).mpr List.mem_cons_self) (by simp)
  | p :: ps, [], _, _, h => absurd ((h p).mp List.mem_cons_self) (by simp)
  | p :: ps, q :: qs, hp, hq, h => by
    have p1 := List.pairwise_cons.mp hp
    have q1 := List.pairwise_cons.mp hq
    have e : p = q := by
      rcases List.mem_cons.mp ((h p).mp List.mem_cons_self) with e | m
      · exact e
      · rcases List.mem_cons.mp ((h q).mpr List.mem_cons_self) with e | m'
        · exact e.symm
        · have := q1.1 p m
          have := p1.1 q m'
          omega
    subst e
    have t : ps = qs := asc_eq p1.2 q1.2 fun x => by
      have hx := h x
      simp only [List.mem_cons] at hx
      constructor
      · intro m
        rcases hx.mp (.inr m) with e | m'
        · subst e
          have := p1.1 x m
          omega
        · exact m'
      · intro m
        rcases hx.mpr (.inr m) with e | m'
        · subst e
          have := q1.1 x m
          omega
        · exact m'
    rw [t]
/-! ### paths -/
def Pn (ps : List Pr) : Nat → Int → Int → Prop
  | 0, a, b => a = b
  | n + 1, a, b => ∃ m, (a, m) ∈ ps ∧ Pn ps n m b
theorem Pn_add {ps : List Pr} : ∀ {n m : Nat} {a b c : Int}, Pn ps n a b → Pn ps m b c → Pn ps (n + m) a c
  | 0, m, a, b, c, h, k => by
    have e : a = b := h
    subst e
    simpa using k
  | n + 1, m, a, b, c, ⟨x, h, r⟩, k => by
    rw [Nat.add_right_comm]
    exact ⟨x, h, Pn_add r k⟩
theorem Pn_split {ps : List Pr} : ∀ {n m : Nat} {a c : Int}, Pn ps (n + m) a c → ∃ b, Pn ps n a b ∧ Pn ps m b c
  | 0, m, a, c, h => ⟨a, rfl, by simpa using h⟩
  | n + 1, m, a, c, h => by
    rw [Nat.add_right_comm] at h
    obtain ⟨x, h, r⟩ := h
    obtain ⟨b, r1, r2⟩ := Pn_split r
    exact ⟨b, ⟨x, h, r1⟩, r2⟩
/-- b follows a -/
def Tc (ps : List Pr) (a b : Int) : Prop := ∃ n, 1 ≤ n ∧ Pn ps n a b
theorem Tc.one {ps : List Pr} {a b : Int} (h : (a, b) ∈ ps) : Tc ps a b := ⟨1, Nat.le_refl _, b, h, rfl⟩
theorem Tc.trans {ps : List Pr} {a b c : Int} (h : Tc ps a b) (k : Tc ps b c) : Tc ps a c := by
  obtain ⟨n, hn, p⟩ := h
  obtain ⟨m, hm, q⟩ := k
  exact ⟨n + m, by omega, Pn_add p q⟩
/-- what holds of the pairs and goes on holds of all that follow -/
theorem Tc.ind {ps : List Pr} {R : Int → Int → Prop} (h1 : ∀ a b, (a, b) ∈ ps → R a b) (ht : ∀ a b c, R a b → R b c → R a c) : ∀ {a b : Int}, Tc ps a b → R a b := by
  rintro a b ⟨n, hn, p⟩
  induction n generalizing a with
  | zero => omega
  | succ n ih =>
    obtain ⟨x, h, r⟩ := p
    cases n with
    | zero =>
      have e : x = b := r
      subst e
      exact h1 _ _ h
    | succ n => exact ht _ _ _ (h1 _ _ h) (ih (by omega) r)
theorem Tc.mono {ps qs : List Pr} (h : ∀ a b, (a, b) ∈ ps → Tc qs a b) {a b : Int} (k : Tc ps a b) : Tc qs a b := k.ind h fun _ _ _ => Tc.trans
theorem Tc.in {n : Int} {ps : List Pr} (h : In n ps) {a b : Int} (k : Tc ps a b) : 0 ≤ a ∧ a < n ∧ 0 ≤ b ∧ b < n :=
  k.ind (R := fun a b => 0 ≤ a ∧ a < n ∧ 0 ≤ b ∧ b < n) (fun a b m => h (a, b) m) fun a b c x y => ⟨x.1, x.2.1, y.2.2⟩
/-- qs is the row of all that follow -/
structure Cl (ps qs : List Pr) : Prop where
  asc : asc qs
  mem : ∀ a b, (a, b) ∈ qs ↔ Tc ps a b
theorem Cl.uniq {ps qs rs : List Pr} (h : Cl ps qs) (k : Cl ps rs) : qs = rs := asc_eq h.asc k.asc fun ⟨a, b⟩ => (h.mem a b).trans (k.mem a b).symm
theorem Cl.sub {ps qs : List Pr} (h : Cl ps qs) : ∀ p ∈ ps, p ∈ qs := fun ⟨a, b⟩ m => (h.mem a b).mpr (.one m)
theorem Cl.in {n : Int} {ps qs : List Pr} (h : Cl ps qs) (k : In n ps) : In n qs := fun ⟨a, b⟩ m => ((h.mem a b).mp m).in k
theorem Cl.trans {ps qs : List Pr} (h : Cl ps qs) {a b c : Int} (x : (a, b) ∈ qs) (y : (b, c) ∈ qs) : (a, c) ∈ qs := (h.mem _ _).mpr (((h.mem _ _).mp x).trans ((h.mem _ _).mp y))
/-- who lies between is the same: the closure of what lies between the pairs and all that follow -/
theorem Cl.between {ps qs rs : List Pr} (h : Cl ps qs) (h1 : ∀ p ∈ ps, p ∈ rs) (h2 : ∀ p ∈ rs, p ∈ qs) : Cl rs qs :=
  ⟨h.asc, fun a b => ⟨fun m => ((h.mem a b).mp m).mono fun x y k => .one (h1 _ k), fun t => (h.mem a b).mpr (t.mono fun x y k => (h.mem x y).mp (h2 _ k))⟩⟩
theorem Cl.idem {ps qs : List Pr} (h : Cl ps qs) : Cl qs qs := h.between h.sub fun _ m => m
theorem Cl.congr {ps ps' qs : List Pr} (h : Cl ps qs) (e : ∀ p, p ∈ ps ↔ p ∈ ps') : Cl ps' qs :=
  ⟨h.asc, fun a b => ⟨fun m => ((h.mem a b).mp m).mono fun x y k => .one ((e _).mp k), fun t => (h.mem a b).mpr (t.mono fun x y k => .one ((e _).mpr k))⟩⟩
/-! ### no ring -/
/-- a standing: each pair goes up in it -/
structure Ups (N : Nat) (r : Int → Nat) (ps : List Pr) : Prop where
  up : ∀ a b, (a, b) ∈ ps → r a < r b
  top : ∀ a b, (a, b) ∈ ps → r b < N
theorem Ups.path {N : Nat} {r : Int → Nat} {ps : List Pr} (h : Ups N r ps) : ∀ {n : Nat} {a b : Int}, Pn ps n a b → r a + n ≤ r b ∧ (1 ≤ n → r b < N)
  | 0, a, b, e => by
    have e : a = b := e
    subst e
    omega
  | n + 1, a, b, ⟨x, m, p⟩ => by
    have h1 := h.up _ _ m
    have h2 := h.top _ _ m
    have h3 := h.path p
    refine ⟨by omega, fun _ => ?_⟩
    cases n with
    | zero =>
      have e : x = b := p
      subst e
      exact h2
    | succ n => exact h3.2 (by omega)
theorem Ups.tc {N : Nat} {r : Int → Nat} {ps : List Pr} (h : Ups N r ps) {a b : Int} (k : Tc ps a b) : r a < r b ∧ r b < N := by
  obtain ⟨n, hn, p⟩ := k
  have := h.path p
  exact ⟨by omega, this.2 hn⟩
theorem Ups.cl {N : Nat} {r : Int → Nat} {ps qs : List Pr} (h : Ups N r ps) (k : Cl ps qs) : Ups N r qs := ⟨fun a b m => (h.tc ((k.mem a b).mp m)).1, fun a b m => (h.tc ((k.mem a b).mp m)).2⟩
theorem Ups.sub {N : Nat} {r : Int → Nat} {ps qs : List Pr} (h : Ups N r ps) (k : ∀ q ∈ qs, q ∈ ps) : Ups N r qs := ⟨fun a b m => h.up a b (k _ m), fun a b m => h.top a b (k _ m)⟩
/-! ### the law's rounds -/
/-- after k rounds: the paths of at most 2 ^ k steps -/
def Rnd (ps : List Pr) (k : Nat) (F : List Pr) : Prop := ∀ a b, (a, b) ∈ F ↔ ∃ n, 1 ≤ n ∧ n ≤ 2 ^ k ∧ Pn ps n a b
theorem Rnd.zero {ps F : List Pr} (h : ∀ p, p ∈ F ↔ p ∈ ps) : Rnd ps 0 F := fun a b => by
  rw [h]
  constructor
  · exact fun m => ⟨1, Nat.le_refl _, Nat.le_refl _, b, m, rfl⟩
  · rintro ⟨n, h1, h2, p⟩
    have e : n = 1 := by
      have : (2 : Nat) ^ 0 = 1 := rfl
      omega
    subst e
    obtain ⟨x, m, e⟩ := p
    have e : x = b := e
    subst e
    exact m
theorem Rnd.succ {ps F G : List Pr} {k : Nat} (h : Rnd ps k F) (hG : ∀ a c, (a, c) ∈ G ↔ (a, c) ∈ F ∨ ∃ b, (a, b) ∈ F ∧ (b, c) ∈ F) : Rnd ps (k + 1) G := fun a c => by
  rw [hG]
  have e2 : 2 ^ (k + 1) = 2 ^ k + 2 ^ k := by rw [Nat.pow_succ]; omega
  constructor
  · rintro (m | ⟨b, m1, m2⟩)
    · obtain ⟨n, h1, h2, p⟩ := (h a c).mp m
      exact ⟨n, h1, by omega, p⟩
    · obtain ⟨n, h1, h2, p⟩ := (h a b).mp m1
      obtain ⟨n', h1', h2', p'⟩ := (h b c).mp m2
      exact ⟨n + n', by omega, by omega, Pn_add p p'⟩
  · rintro ⟨n, h1, h2, p⟩
    by_cases hn : n ≤ 2 ^ k
    · exact .inl ((h a c).mpr ⟨n, h1, hn, p⟩)
    · obtain ⟨d, rfl⟩ : ∃ d, n = 2 ^ k + d := ⟨n - 2 ^ k, by omega⟩
      obtain ⟨b, p1, p2⟩ := Pn_split p
      have : 1 ≤ 2 ^ k := Nat.one_le_two_pow
      exact .inr ⟨b, (h a b).mpr ⟨2 ^ k, this, Nat.le_refl _, p1⟩, (h b c).mpr ⟨d, by omega, by omega, p2⟩⟩
theorem Rnd.done {ps F : List Pr} {r : Int → Nat} {N : Nat} (h : Rnd ps 4 F) (u : Ups N r ps) (hN : N ≤ 17) : ∀ a b, (a, b) ∈ F ↔ Tc ps a b := fun a b => by
  rw [h]
  constructor
  · rintro ⟨n, h1, _, p⟩
    exact ⟨n, h1, p⟩
  · rintro ⟨n, h1, p⟩
    have := u.path p
    have := this.2 h1
    exact ⟨n, h1, by omega, p⟩
/-! ### rows of names -/
/-- the place of a name in a row -/
def plc (row : List Int) (a : Int) : Nat := row.idxOf a
theorem plc_get {row : List Int} (nd : row.Nodup) {i : Nat} {a : Int} (h : row[i]? = some a) : plc row a = i := by
  obtain ⟨hi, e⟩ := List.getElem?_eq_some_iff.mp h
  rw [← e]
  unfold plc
  exact List.Nodup.idxOf_getElem nd i hi
/-! ### many asc pairs -/
theorem asc_of_perm {ps qs : List Pr} (pm : qs.Perm ps) (nd : ps.Nodup) (hin : In 64 ps) (h : qs.Pairwise (fun p q => code p ≤ code q)) : asc qs := by
  have nq : qs.Nodup := pm.nodup_iff.mpr nd
  have hq : In 64 qs := fun p hp => hin p (pm.mem_iff.mp hp)
  have h3 := h.and nq
  refine List.Pairwise.imp_of_mem (fun {p q} mp mq ⟨l, ne⟩ => ?_) h3
  rcases Int.lt_or_eq_of_le l with lt | e
  · exact lt
  · have x := hq p mp
    have y := hq q mq
    exact absurd (code_inj ⟨x.2.2.1, x.2.2.2⟩ ⟨y.2.2.1, y.2.2.2⟩ e) ne
end Ev

namespace Ev
open PySem PySem.Spec PyProof.Rows L2
section
variable {P : Program} {w : World} {A : Around} {E : Value → Shared → Prop} {s : Shared}
abbrev Ks := List (Addr × List Int)
/-- few unlike ones among them -/
def Few (ks : Ks) : Prop := ∀ L : Ks, (∀ p ∈ L, p ∈ ks) → (L.map (·.2)).Nodup → L.length < 63
/-- the update's loop, over any walk, the unlike ones being few -/
theorem grow_loop {I : Addr} {fp wr : List Addr} {G : Array GenState → Array GenState → Prop} {n : Nat} {Pv : Nat → Value → Prop} {St : Nat → Shared → Prop} {R : Result → Shared → Prop}
    (W : WalksS P w A.in1 I fp wr G n Pv St) (S : Addr) (hSf : S ∉ fp) (ks : Ks) (hn : n = ks.length) (few : Few ks) (val : ∀ i v, Pv i v → ∃ p, ks[i]? = some p ∧ v = .ref p.1)
    (g0 : Heap) (hk : ∀ p ∈ ks, IsT P w g0 p.2 p.1) (gS : g0.get? S = none) (gw : ∀ b ∈ wr, g0.get? b = none) (hu : A.in1.units < cLine) (left : Nat) :
    ∀ (i : Nat) (z : Shared), n - i = left → i ≤ n → St i z → (∀ b o, g0.get? b = some o → z.heap.get? b = some o) → (∃ L es ep t, SetTR P w z.heap S L es ep t ∧ Got ks i L) →
      (∀ z' L es ep t, Moved (S :: wr) G z z' → SetTR P w z'.heap S L es ep t → Got ks n L → (∀ b o, g0.get? b = some o → z'.heap.get? b = some o) → R (.ok (.ret .none)) z') →
      codeAny (model P w) A (.builtin "set.update.loop" ⟨[.ref S, .ref I], []⟩) R z := by
  have Sw : S ∉ wr := fun q => hSf (W.sub _ q)
  have up : ∀ b ∈ wr, b ∈ S :: wr := fun b q => List.mem_cons_of_mem _ q
  have stay : ∀ {z z' : Shared}, Moved wr G z z' → (∀ b o, g0.get? b = some o → z.heap.get? b = some o) → ∀ b o, g0.get? b = some o → z'.heap.get? b = some o := by
    intro z z' mv kp b o e
    refine mv.heap b o (fun q => ?_) (kp b o e)
    rw [gw b q] at e
    cases e
  induction left with
  | zero =>
    rintro i z hz hi st kp ⟨L, es, ep, t, hS, g⟩ fin
    obtain rfl : i = n := by omega
    refine codeAny_builtin F.entry_set_update_loop ?_
    rw [Around.under_plainId F.plain_set_update_loop _]
    show wpAny _ A.in1 (pyNext (.ref I) >>= _) _ _ z
    refine wpAny_bind (W.done z _ _ st fun z' mv => ?_)
    show wpAny _ A.in1 (ret Value.none) _ _ z'
    have kp' := stay mv kp
    refine wpAny_pure (fin z' L es ep t (mv.mono up) (hS.keep (fun o e => mv.heap S o Sw e) fun p hp => ?_) g kp')
    exact isT_keep (hk p (List.mem_of_mem_take (g.sub p hp))) kp'
  | succ left ih =>
    rintro i z hz hi st kp ⟨L, es, ep, t, hS, g⟩ fin
    have lt : i < n := by omega
    refine codeAny_builtin F.entry_set_update_loop ?_
    rw [Around.under_plainId F.plain_set_update_loop _]
    show wpAny _ A.in1 (pyNext (.ref I) >>= _) _ _ z
    refine wpAny_bind (W.item i z _ _ lt st fun v z' pv st' mv => ?_)
    obtain ⟨p, hp, rfl⟩ := val i v pv
    have kp' := stay mv kp
    have sub : ∀ p ∈ L, p ∈ ks := fun p q => List.mem_of_mem_take (g.sub p q)
    have hS' : SetTR P w z'.heap S L es ep t := hS.keep (fun o e => mv.heap S o Sw e) fun q hq => isT_keep (hk q (sub q hq)) kp'
    have hx : IsT P w z'.heap p.2 p.1 := isT_keep (hk p (List.mem_of_getElem? hp)) kp'
    have lf := few L sub hS'.nd
    show wpAny _ A.in1 (holding [Value.ref p.1] (setAdd S (.ref p.1)) >>= _) _ _ z'
    refine wpAny_bind (wpAny_holding ?_)
    unfold setAdd
    refine wpAny_holding (wpAny_bind (wpAny_pyHash_tuple hu hx ?_))
    refine add_at (s := { z' with toks := z'.toks + (p.2.length + 1) }) hS' hx hu (by omega) fun b h' L' es' ep' t' sb hS2 c1 c2 => ?_
    have g' : Got ks (i + 1) L' := by
      by_cases c : p.2 ∈ L.map (·.2)
      · exact (c1 c) ▸ g.same hp c
      · exact g.more hp (c2 c)
    have kp2 : ∀ b o, g0.get? b = some o → h'.get? b = some o := by
      intro b o e
      refine (sb.2 b fun q => ?_).trans (kp' b o e)
      rw [q, gS] at e
      cases e
    refine wpAny_pure ⟨plainId_quiet F.plain_set_update_loop _, ih (i + 1) _ (by omega) lt (W.frame _ z' _ _ st' (Nat.le_add_right _ _) fun b hb o e => ?_) kp2 ⟨L', es', ep', t', hS2, g'⟩ fun z2 L2 es2 ep2 t2 mv2 hS3 g2 kp3 => ?_⟩
    · rw [sb.2 b (fun q : b = S => hSf (q ▸ hb))]
      exact e
    · refine fin z2 L2 es2 ep2 t2 (Moved.trans W.gtrans ((mv.mono up).then_heap (Nat.le_add_right _ _) fun b o hb e => ?_) mv2) hS3 g2 kp3
      rw [sb.2 b (fun q : b = S => hb (q ▸ List.mem_cons_self))]
      exact e

set_option maxHeartbeats 8000000 in
/-- set(xs), xs a list of tuples of ints, few unlike ones -/
theorem set_of_list {l : Addr} {items : Array Value} (ks : Ks) {Q : Value → Shared → Prop} (calm : A.handled = none) (hl : s.heap.IsList l items) (hit : items.toList = ks.map fun p => Value.ref p.1)
    (hk : ∀ p ∈ ks, IsT P w s.heap p.2 p.1) (few : Few ks) (hu : A.units + 3 < cLine)
    (q : ∀ (h' : Heap) (tk : Nat) L es ep t, SetTR P w h' s.heap.objs.size L es ep t → Got ks ks.length L → (∀ b o, s.heap.get? b = some o → h'.get? b = some o) → Q (.ref s.heap.objs.size) { s with heap := h', toks := tk }) :
    wpAny (model P w) A (call (.type "set") [.ref l]) Q E s := by
  have siz : items.size = ks.length := by rw [← Array.length_toList, hit, List.length_map]
  obtain ⟨c, tl, hmro⟩ := F.called_set.mro
  have made := F.called_set.made
  have sub_ := F.called_set.sub
  have notT := F.called_set.notType
  have canC := F.called_set.canCreate
  have one := F.typeCall_set_1 (.ref l)
  let o0 : Obj := { cls := .type "set", dict := none, data := .set #[] 0 (.fresh 0 0 (!w.params.followText "set-order")) }
  refine wpAny_call (codeAny_of_tree ?_)
  show wpAny _ _ (callAny (.type "set") _) _ _ _
  refine wpAny_pure ⟨Code.quiet_builtin _ (by decide +kernel), codeAny_builtin F.entry_type_call ?_⟩
  rw [Around.under_plain (weight_type_call_type "set" [.ref l] []) rfl]
  repeat (any_goals (first | assumption | wp_step))
  refine codeAny_mono (code_set_led1 (.ref l) (E := E) (Q₁ := fun obj z => obj = .ref s.heap.objs.size ∧ z = { s with heap := s.heap.push o0 }) ⟨rfl, rfl⟩) fun r z hr => ?_
  cases r with
  | error e => exact hr
  | ok fl =>
    cases fl with
    | ret obj =>
      obtain ⟨rfl, rfl⟩ := hr
      have hS : (s.heap.push o0).get? s.heap.objs.size = some o0 := Heap.get?_push_size _ rfl
      have hT : Shared.TypeIs { s with heap := s.heap.push o0 } (.ref s.heap.objs.size) "set" := ⟨_, hS, rfl⟩
      have look := F.called_set.init.lookup
      have bind_ := F.called_set.init.bind (.ref s.heap.objs.size)
      repeat (any_goals (first | assumption | wp_step))
      refine codeAny_mono (codeAny_call_builtin (R := wants (fun r z2 => r = .none ∧ ∃ h' tk L es ep t, z2 = { s with heap := h', toks := tk } ∧ SetTR P w h' s.heap.objs.size L es ep t ∧ Got ks ks.length L ∧
          (∀ b o, s.heap.get? b = some o → h'.get? b = some o)) E) F.called_set.init.plain F.entry_set_init (check_set_init_1 hT ?_)) fun r2 z2 hr2 => ?_
      · obtain ⟨ol, hol, hcl, nl, hdl⟩ := hl
        obtain ⟨ocls, odict, odata, oslots⟩ := ol
        simp only at hcl hdl
        subst hcl
        subst hdl
        have hol' : (s.heap.push o0).get? l = some { cls := .type "list", dict := odict, data := .seq items nl, slots := oslots } := Heap.get?_push_of_some _ hol
        have n1 := F.sub_list_set
        have n2 := F.sub_list_frozenset
        have n3 : (Value.type "list" == Value.type "dict") = false := by decide
        have hl1 : (s.heap.push o0).IsList l items := ⟨_, hol', rfl, nl, rfl⟩
        unfold Builtin.«set.__init__» noKeywords Builtin.Frozenset.updateFrom
        generalize hPI : pyIter = PI
        wp_walk
        subst hPI
        refine wpAny_pyIter_list hl1 (wpAny_bind (wpAny_runValue ?_))
        have below : l < s.heap.objs.size := Heap.lt_size hol
        have calm3 : A.in1.in1.in1.handled = none := by simp [calm]
        have up1 : (s.heap.push o0).objs.size = s.heap.objs.size + 1 := Heap.size_push ..
        have ne1 : l ≠ (s.heap.push o0).objs.size := up1 ▸ Nat.ne_of_lt (Nat.lt_succ_of_lt below)
        have ne2 : s.heap.objs.size ∉ [(s.heap.push o0).objs.size, l] := by
          rw [up1]
          simp only [List.mem_cons, List.not_mem_nil, or_false, not_or]
          exact ⟨Nat.ne_of_lt (Nat.lt_succ_self _), Nat.ne_of_gt below⟩
        have val : ∀ (i : Nat) (v : Value), items[i]? = some v → ∃ p, ks[i]? = some p ∧ v = .ref p.1 := by
          intro i v hv
          have e : (ks.map fun p => Value.ref p.1)[i]? = some v := by
            rw [← hit, Array.getElem?_toList]
            exact hv
          rw [List.getElem?_map] at e
          cases e2 : ks[i]? with
          | none => simp [e2] at e
          | some p => exact ⟨p, rfl, by simpa [e2] using e.symm⟩
        have off : ∀ b, s.heap.objs.size ≤ b → s.heap.get? b = none := by
          intro b hb
          cases e : s.heap.get? b with
          | none => rfl
          | some o => exact (Nat.not_lt.mpr hb (Heap.lt_size e)).elim
        refine grow_loop ((Walks.list calm3 _ l ne1 items).toS) s.heap.objs.size ne2 ks siz few val s.heap hk (off _ (Nat.le_refl _)) (fun b hb => off b (by
            rw [List.mem_singleton.mp hb, up1]
            exact Nat.le_succ _)) hu (items.size - 0) 0 _ (by omega) (Nat.zero_le _)
          ⟨⟨_, Heap.get?_push_size _ rfl, rfl, rfl⟩, hl1.push _⟩ (fun b o e => Heap.get?_push_of_some _ (Heap.get?_push_of_some _ e)) ?start ?fin
        case start =>
          exact ⟨[], #[], 0, _, setTR_fresh (Heap.get?_push_of_some _ hS), Got.zero ks⟩
        case fin =>
          rintro ⟨h', g2, d', tk', os'⟩ L es ep t mv hS' got kp
          obtain rfl : g2 = s.gens := mv.gens
          obtain rfl : d' = s.drawn := mv.drawn
          obtain rfl : os' = s.os := mv.os
          show wpAny _ _ _ _ _ _
          refine wpAny_pure ?_
          show wpAny _ _ (ret Value.none) _ _ _
          exact wpAny_pure ⟨rfl, h', tk', L, es, ep, t, rfl, hS', siz ▸ got, kp⟩
      · cases r2 with
        | error e => exact hr2
        | ok fl2 =>
          cases fl2 with
          | ret r =>
            obtain ⟨rfl, h', tk, L, es, ep, t, rfl, hS', got, kp⟩ := hr2
            repeat (any_goals (first | assumption | wp_step))
            exact q _ _ _ _ _ _ hS' got kp
          | _ => exact hr2.elim
    | _ => exact hr.elim

set_option maxHeartbeats 8000000 in
/-- set(xs), xs a tuple of tuples of ints, few unlike ones -/
theorem set_of_tuple {l : Addr} {items : Array Value} (ks : Ks) {Q : Value → Shared → Prop} (calm : A.handled = none) (hl : s.heap.IsTuple l items) (hit : items.toList = ks.map fun p => Value.ref p.1)
    (hk : ∀ p ∈ ks, IsT P w s.heap p.2 p.1) (few : Few ks) (hu : A.units + 3 < cLine)
    (q : ∀ (h' : Heap) (tk : Nat) L es ep t, SetTR P w h' s.heap.objs.size L es ep t → Got ks ks.length L → (∀ b o, s.heap.get? b = some o → h'.get? b = some o) → Q (.ref s.heap.objs.size) { s with heap := h', toks := tk }) :
    wpAny (model P w) A (call (.type "set") [.ref l]) Q E s := by
  have siz : items.size = ks.length := by rw [← Array.length_toList, hit, List.length_map]
  obtain ⟨c, tl, hmro⟩ := F.called_set.mro
  have made := F.called_set.made
  have sub_ := F.called_set.sub
  have notT := F.called_set.notType
  have canC := F.called_set.canCreate
  have one := F.typeCall_set_1 (.ref l)
  let o0 : Obj := { cls := .type "set", dict := none, data := .set #[] 0 (.fresh 0 0 (!w.params.followText "set-order")) }
  refine wpAny_call (codeAny_of_tree ?_)
  show wpAny _ _ (callAny (.type "set") _) _ _ _
  refine wpAny_pure ⟨Code.quiet_builtin _ (by decide +kernel), codeAny_builtin F.entry_type_call ?_⟩
  rw [Around.under_plain (weight_type_call_type "set" [.ref l] []) rfl]
  repeat (any_goals (first | assumption | wp_step))
  refine codeAny_mono (code_set_led1 (.ref l) (E := E) (Q₁ := fun obj z => obj = .ref s.heap.objs.size ∧ z = { s with heap := s.heap.push o0 }) ⟨rfl, rfl⟩) fun r z hr => ?_
  cases r with
  | error e => exact hr
  | ok fl =>
    cases fl with
    | ret obj =>
      obtain ⟨rfl, rfl⟩ := hr
      have hS : (s.heap.push o0).get? s.heap.objs.size = some o0 := Heap.get?_push_size _ rfl
      have hT : Shared.TypeIs { s with heap := s.heap.push o0 } (.ref s.heap.objs.size) "set" := ⟨_, hS, rfl⟩
      have look := F.called_set.init.lookup
      have bind_ := F.called_set.init.bind (.ref s.heap.objs.size)
      repeat (any_goals (first | assumption | wp_step))
      refine codeAny_mono (codeAny_call_builtin (R := wants (fun r z2 => r = .none ∧ ∃ h' tk L es ep t, z2 = { s with heap := h', toks := tk } ∧ SetTR P w h' s.heap.objs.size L es ep t ∧ Got ks ks.length L ∧
          (∀ b o, s.heap.get? b = some o → h'.get? b = some o)) E) F.called_set.init.plain F.entry_set_init (check_set_init_1 hT ?_)) fun r2 z2 hr2 => ?_
      · obtain ⟨ol, hol, hcl, nl, hdl⟩ := hl
        obtain ⟨ocls, odict, odata, oslots⟩ := ol
        simp only at hcl hdl
        subst hcl
        subst hdl
        have hol' : (s.heap.push o0).get? l = some { cls := .type "tuple", dict := odict, data := .seq items nl, slots := oslots } := Heap.get?_push_of_some _ hol
        have n1 := F.sub_tuple_set
        have n2 := F.sub_tuple_frozenset
        have n3 : (Value.type "tuple" == Value.type "dict") = false := by decide
        have hl1 : (s.heap.push o0).IsTuple l items := ⟨_, hol', rfl, nl, rfl⟩
        unfold Builtin.«set.__init__» noKeywords Builtin.Frozenset.updateFrom
        generalize hPI : pyIter = PI
        wp_walk
        subst hPI
        refine wpAny_pyIter_tuple hl1 (wpAny_bind (wpAny_runValue ?_))
        have below : l < s.heap.objs.size := Heap.lt_size hol
        have calm3 : A.in1.in1.in1.handled = none := by simp [calm]
        have up1 : (s.heap.push o0).objs.size = s.heap.objs.size + 1 := Heap.size_push ..
        have ne1 : l ≠ (s.heap.push o0).objs.size := up1 ▸ Nat.ne_of_lt (Nat.lt_succ_of_lt below)
        have ne2 : s.heap.objs.size ∉ [(s.heap.push o0).objs.size, l] := by
          rw [up1]
          simp only [List.mem_cons, List.not_mem_nil, or_false, not_or]
          exact ⟨Nat.ne_of_lt (Nat.lt_succ_self _), Nat.ne_of_gt below⟩
        have val : ∀ (i : Nat) (v : Value), items[i]? = some v → ∃ p, ks[i]? = some p ∧ v = .ref p.1 := by
          intro i v hv
          have e : (ks.map fun p => Value.ref p.1)[i]? = some v := by
            rw [← hit, Array.getElem?_toList]
            exact hv
          rw [List.getElem?_map] at e
          cases e2 : ks[i]? with
          | none => simp [e2] at e
          | some p => exact ⟨p, rfl, by simpa [e2] using e.symm⟩
        have off : ∀ b, s.heap.objs.size ≤ b → s.heap.get? b = none := by
          intro b hb
          cases e : s.heap.get? b with
          | none => rfl
          | some o => exact (Nat.not_lt.mpr hb (Heap.lt_size e)).elim
        refine grow_loop ((Walks.tuple calm3 _ l ne1 items).toS) s.heap.objs.size ne2 ks siz few val s.heap hk (off _ (Nat.le_refl _)) (fun b hb => off b (by
            rw [List.mem_singleton.mp hb, up1]
            exact Nat.le_succ _)) hu (items.size - 0) 0 _ (by omega) (Nat.zero_le _)
          ⟨⟨_, Heap.get?_push_size _ rfl, rfl, rfl⟩, hl1.push _⟩ (fun b o e => Heap.get?_push_of_some _ (Heap.get?_push_of_some _ e)) ?start ?fin
        case start =>
          exact ⟨[], #[], 0, _, setTR_fresh (Heap.get?_push_of_some _ hS), Got.zero ks⟩
        case fin =>
          rintro ⟨h', g2, d', tk', os'⟩ L es ep t mv hS' got kp
          obtain rfl : g2 = s.gens := mv.gens
          obtain rfl : d' = s.drawn := mv.drawn
          obtain rfl : os' = s.os := mv.os
          show wpAny _ _ _ _ _ _
          refine wpAny_pure ?_
          show wpAny _ _ (ret Value.none) _ _ _
          exact wpAny_pure ⟨rfl, h', tk', L, es, ep, t, rfl, hS', siz ▸ got, kp⟩
      · cases r2 with
        | error e => exact hr2
        | ok fl2 =>
          cases fl2 with
          | ret r =>
            obtain ⟨rfl, h', tk, L, es, ep, t, rfl, hS', got, kp⟩ := hr2
            repeat (any_goals (first | assumption | wp_step))
            exact q _ _ _ _ _ _ hS' got kp
          | _ => exact hr2.elim
    | _ => exact hr.elim
end
section
variable {X : Cx}
/-- set(x), x a list or a tuple of tuples of ints -/
def rSetKs (K : PySem.W.Frag) (P : Program) (w : World) : List V → Hp → VK → Prop := fun xs H Q => ∃ (l : Addr) (ks : Ks), xs = [V.ref l] ∧ (SqL K H l (ks.map fun p => V.ref p.1) ∨ SqT K H l (ks.map fun p => V.ref p.1)) ∧ (∀ p ∈ ks, SqT K H p.1 (p.2.map V.int)) ∧ Few ks ∧
  ∀ a L, H a = none → (∀ p ∈ L, p ∈ ks) → (∀ p ∈ ks, p.2 ∈ L.map (·.2)) → Q (.ref a) (upd H a (SetTO P w a L))
theorem cr_setKs (hc : X.calm = true) (hu : X.A.units + 64 < cLine) : CallR X (.type "set") (rSetKs X.K X.prog X.w) := by
  intro pins s σ H xs us Q I r h
  obtain ⟨l, ks, rfl, hl, hk, hf, q⟩ := h
  rw [Vals.ref1 r]
  have hn : H s.heap.objs.size = none := I.hok.fresh (Nat.le_refl _)
  have fin : ∀ (h' : Heap) (tk : Nat) L es ep t, SetTR X.prog X.w h' s.heap.objs.size L es ep t → Got ks ks.length L → (∀ b o, s.heap.get? b = some o → h'.get? b = some o) → EP X pins σ Q (.ref s.heap.objs.size) { s with heap := h', toks := tk } := by
    intro h' tk L es ep t R g k
    refine ⟨.ref s.heap.objs.size, upd H s.heap.objs.size (SetTO X.prog X.w s.heap.objs.size L), I.laid (t' := tk) k (Nat.le_refl _) (setTO_new R.t0), rfl, q _ L hn (fun p hp => List.mem_of_mem_take (g.sub p hp)) fun p hp => g.all p ?_⟩
    rw [List.take_length]
    exact hp
  rcases hl with hl | hl
  · obtain ⟨its, rv, pl, hz⟩ := I.list hl
    exact set_of_list (P := X.prog) (w := X.w) ks (I.ok.hd hc) pl.isList (by simpa using refs_of_vals rv) (fun p hp => I.isT (hk p hp)) hf (by omega) fin
  · obtain ⟨its, rv, pl, hz⟩ := I.tuple hl
    exact set_of_tuple (P := X.prog) (w := X.w) ks (I.ok.hd hc) pl (by simpa using refs_of_vals rv) (fun p hp => I.isT (hk p hp)) hf (by omega) fin
/-- xs[k] for an operator's store -/
def rGetN (K : PySem.W.Frag) : V → V → Hp → VK → Prop := fun x y H Q => ∃ (p : Addr) (xs : List V) (k : Nat) (v : V), x = .ref p ∧ y = .int k ∧ SqL K H p xs ∧ xs[k]? = some v ∧ Q v H
theorem pget_list : PGet X (rGetN X.K) := by
  intro pins s σ H o i ov iv Q I r1 r2 h
  obtain ⟨p, xs, k, v, rfl, rfl, hs, hv, q⟩ := h
  cases r1
  obtain ⟨t, rfl⟩ := r2
  obtain ⟨its, rv, pl, hz⟩ := I.list hs
  obtain ⟨u, eu, ru⟩ := rv.get hv
  have h1 : k < xs.length := (List.getElem?_eq_some_iff.mp hv).1
  have h2 := line63
  exact wpAny_getItem_list pl.isList (by omega) (by omega) (by simpa using eu) ⟨v, H, I, ru, q⟩
end
end Ev

namespace Ev
open PySem PySem.Spec PyProof.Rows L2
/-- the built-in names are not the module's own -/
structure Bl (mg : Str → Option Value) : Prop where
  int : mg "int" = none
  bool : mg "bool" = none
  len : mg "len" = none
  range : mg "range" = none
  sorted : mg "sorted" = none
  set : mg "set" = none
  tuple : mg "tuple" = none
  list : mg "list" = none
  isinstance : mg "isinstance" = none
  all : mg "all" = none
  any : mg "any" = none
  dict : mg "dict" = none
  sum : mg "sum" = none
  enumerate : mg "enumerate" = none
  min : mg "min" = none
  max : mg "max" = none
  zip : mg "zip" = none
  reversed : mg "reversed" = none
  repr : mg "repr" = none
  str : mg "str" = none
/-- a def of the module, as it is called -/
structure Df (K : PySem.W.Frag) (mg : Str → Option Value) (x : Str) (st : Stmt) (ps : List Str) (f : Addr) (fd : FuncData) : Prop where
  F : L2.Fun K x x st f fd
  b : Binds K fd ps []
  g : mg x = some (.ref f)
/-! ### rows of pairs in the heap -/
abbrev Kp := List (Addr × Pr)
def kv (ks : Kp) : List V := ks.map fun k => V.ref k.1
def kp (ks : Kp) : List Pr := ks.map (·.2)
def KsAt (K : PySem.W.Frag) (H : Hp) (ks : Kp) : Prop := ∀ k ∈ ks, SqT K H k.1 [.int k.2.1, .int k.2.2]
/-- all but what stands at t is as it was -/
def Keep (t : Addr) (H H' : Hp) : Prop := ∀ b o, H b = some o → b ≠ t → H' b = some o
theorem Keep.trans {t : Addr} {H H1 H2 : Hp} (a : Keep t H H1) (b : Keep t H1 H2) : Keep t H H2 := fun c o h n => b c o (a c o h n) n
theorem same_keep {t : Addr} {H H' : Hp} (a : Same H H') : Keep t H H' := fun c o h _ => a c o h
theorem Keep.upd {t : Addr} {H H' : Hp} {o : HO} (a : Keep t H H') : Keep t H (upd H' t o) := fun c u h n => by
  rw [upd_ne n]
  exact a c u h n
theorem Keep.refl (t : Addr) (H : Hp) : Keep t H H := fun _ _ h _ => h
theorem same_upd {H H' : Hp} {p : Addr} {o : HO} (a : Same H H') (h : H p = none) : Same H (upd H' p o) := fun b u e => by
  rw [upd_ne (ne_of_none e h)]
  exact a b u e
theorem Keep.new {t p : Addr} {H H' : Hp} {o : HO} (a : Keep t H H') (h : H p = none) : Keep t H (L2.upd H' p o) := fun b u e n => by
  rw [upd_ne (ne_of_none e h)]
  exact a b u e n
/-- a new object behind the others -/
theorem same_new {H : Hp} {p : Addr} {o : HO} (h : H p = none) : Same H (upd H p o) := same_upd (Same.refl H) h
section
variable {K : PySem.W.Frag} {H H' H1 : Hp} {t a p : Addr} {xs ys : List V} {ks : Kp}
theorem sqT_keep (h : SqT K H a xs) (k : Keep t H H') (ht : H t = some (.lst ys)) : SqT K H' a xs := by
  rcases h with (h | ⟨o, h⟩) | h
  · exact .inl (.inl (k _ _ h (ne_of h ht nofun)))
  · exact .inl (.inr ⟨o, k _ _ h (ne_of h ht nofun)⟩)
  · exact .inr h
theorem sqT_same (h : SqT K H a xs) (k : Same H H') : SqT K H' a xs := by
  rcases h with (h | ⟨o, h⟩) | h
  · exact .inl (.inl (k _ _ h))
  · exact .inl (.inr ⟨o, k _ _ h⟩)
  · exact .inr h
theorem sqT_of (h : H a = some (.tup xs)) : SqT K H a xs := .inl (.inl h)
theorem KsAt.keep (h : KsAt K H ks) (k : Keep t H H') (ht : H t = some (.lst ys)) : KsAt K H' ks := fun x m => sqT_keep (h x m) k ht
theorem KsAt.same (h : KsAt K H ks) (k : Same H H') : KsAt K H' ks := fun x m => sqT_same (h x m) k
theorem KsAt.sub {js : Kp} (h : KsAt K H ks) (s : ∀ j ∈ js, j ∈ ks) : KsAt K H js := fun x m => h x (s x m)
theorem KsAt.nil : KsAt K H [] := nofun
theorem KsAt.append {js : Kp} (h : KsAt K H ks) (h' : KsAt K H js) : KsAt K H (ks ++ js) := fun x m => (List.mem_append.mp m).elim (h x) (h' x)
theorem KsAt.one {q : Pr} (h : SqT K H p [.int q.1, .int q.2]) : KsAt K H [(p, q)] := fun x m => by
  cases List.mem_singleton.mp m
  exact h
/-- the pair at p as well: at a heap with this one more -/
theorem KsAt.snoc {q : Pr} (h : KsAt K H ks) (n : H p = none) : KsAt K (upd H p (.tup [.int q.1, .int q.2])) (ks ++ [(p, q)]) := (h.same (same_new n)).append (KsAt.one (sqT_of upd_same))
theorem kv_append (ks js : Kp) : kv (ks ++ js) = kv ks ++ kv js := List.map_append
theorem kp_append (ks js : Kp) : kp (ks ++ js) = kp ks ++ kp js := List.map_append
theorem kv_length (ks : Kp) : (kv ks).length = ks.length := List.length_map _
theorem kp_length (ks : Kp) : (kp ks).length = ks.length := List.length_map _
theorem kv_get {i : Nat} {k : Addr × Pr} (h : ks[i]? = some k) : (kv ks)[i]? = some (V.ref k.1) := by
  unfold kv
  rw [List.getElem?_map, h]
  rfl
theorem kp_get {i : Nat} {k : Addr × Pr} (h : ks[i]? = some k) : (kp ks)[i]? = some k.2 := by
  unfold kp
  rw [List.getElem?_map, h]
  rfl
theorem get_kv {i : Nat} {x : V} (h : (kv ks)[i]? = some x) : ∃ k, ks[i]? = some k ∧ x = V.ref k.1 := by
  unfold kv at h
  rw [List.getElem?_map] at h
  cases e : ks[i]? with
  | none => rw [e] at h; cases h
  | some k => rw [e] at h; exact ⟨k, rfl, (Option.some.inj h).symm⟩
theorem perm_map {α β : Type} (f : α → β) : ∀ {ys : List β} {xs : List α}, ys.Perm (xs.map f) → ∃ zs : List α, zs.Perm xs ∧ ys = zs.map f := by
  suffices h : ∀ {ys us : List β}, ys.Perm us → ∀ xs : List α, us = xs.map f → ∃ zs : List α, zs.Perm xs ∧ ys = zs.map f from fun {ys xs} p => h p xs rfl
  intro ys us p
  induction p with
  | nil =>
    intro xs e
    have e : xs = [] := by simpa using e.symm
    subst e
    exact ⟨[], .nil, rfl⟩
  | cons x _ ih =>
    intro xs e
    match xs, e with
    | z :: r, e =>
      simp only [List.map_cons, List.cons.injEq] at e
      obtain ⟨e1, e2⟩ := e
      obtain ⟨zs, p, e3⟩ := ih r e2
      exact ⟨z :: zs, p.cons z, by rw [e1, e3] <;> rfl⟩
  | swap x y l =>
    intro xs e
    match xs, e with
    | z :: z' :: r, e =>
      simp only [List.map_cons, List.cons.injEq] at e
      obtain ⟨e1, e2, e3⟩ := e
      exact ⟨z' :: z :: r, .swap z z' r, by rw [e1, e2, e3] <;> rfl⟩
  | trans _ _ ih1 ih2 =>
    intro xs e
    obtain ⟨zs, p, e1⟩ := ih2 xs e
    obtain ⟨zs', p', e2⟩ := ih1 zs e1
    exact ⟨zs', p'.trans p, e2⟩
/-! ### sorted, of pairs -/
theorem bd_pair {q : Pr} (h : 0 ≤ q.1 ∧ q.1 < 64 ∧ 0 ≤ q.2 ∧ q.2 < 64) : TS.Bd 64 [q.1, q.2] := fun m hm => by
  rcases List.mem_cons.mp hm with e | hm
  · subst e
    exact ⟨h.1, h.2.1⟩
  · rcases List.mem_cons.mp hm with e | hm
    · subst e
      exact h.2.2
    · cases hm
/-- sorted(xs), xs a list of unlike pairs -/
theorem rd_sort {x : V} {Q : VK} (h : ∃ (l : Addr) (ks : Kp), x = .ref l ∧ SqL K H l (kv ks) ∧ KsAt K H ks ∧ ks.length < 64 ∧ In 64 (kp ks) ∧ (kp ks).Nodup ∧
    ∀ (js : Kp) (p : Addr), js.Perm ks → asc (kp js) → H p = none → Q (.ref p) (upd H p (.lst (kv js)))) : rSortU K 2 64 [x] H Q := by
  obtain ⟨l, ks, rfl, hl, hk, h64, hin, nd, q⟩ := h
  refine ⟨l, kv ks, rfl, hl, by rw [kv_length]; exact h64, fun x hx => ?_, fun ys p pm pw np => ?_⟩
  · obtain ⟨k, mk, rfl⟩ := List.mem_map.mp hx
    exact ⟨[k.2.1, k.2.2], ⟨k.1, rfl, hk k mk⟩, rfl, bd_pair (hin _ (List.mem_map_of_mem mk))⟩
  · obtain ⟨js, pj, rfl⟩ := perm_map _ pm
    refine q js p pj (asc_of_perm (pj.map _) nd hin ?_) np
    have e : (kp js).Pairwise (fun p q => code p ≤ code q) ↔ _ := List.pairwise_map
    rw [e]
    refine List.Pairwise.imp_of_mem (fun {i j} mi mj c => ?_) (List.pairwise_map.mp pw)
    have c1 := c [i.2.1, i.2.2] [j.2.1, j.2.2] ⟨i.1, rfl, hk i (pj.mem_iff.mp mi)⟩ ⟨j.1, rfl, hk j (pj.mem_iff.mp mj)⟩
    rw [code_pair, code_pair] at c1
    exact c1
/-- few unlike pairs of unlike names below 8 -/
theorem few8 (ps : List Pr) (hin : In 8 ps) (ne : ∀ p ∈ ps, p.1 ≠ p.2) (nd : ps.Nodup) : ps.length < 63 := by
  have h := nat_nodup_len (ps.map fun p => (p.1 * 8 + p.2).toNat) ((List.range 64).filter fun c => c / 8 != c % 8) ?_ ?_
  · rw [List.length_map] at h
    exact Nat.lt_of_le_of_lt h (by decide)
  · refine List.pairwise_map.mpr (List.Pairwise.imp_of_mem (fun {p q} mp mq n e => n ?_) nd)
    have h1 := hin p mp
    have h2 := hin q mq
    obtain ⟨a, b⟩ := p
    obtain ⟨c, d⟩ := q
    simp only at *
    have : a = c := by omega
    have : b = d := by omega
    simp [*]
  · intro c hc
    obtain ⟨p, mp, rfl⟩ := List.mem_map.mp hc
    have h1 := hin p mp
    have h2 := ne p mp
    rw [List.mem_filter, List.mem_range]
    refine ⟨by omega, ?_⟩
    rw [bne_iff_ne]
    omega
def toK (ks : Kp) : Ks := ks.map fun k => (k.1, [k.2.1, k.2.2])
theorem pair_inj {p q : Pr} (h : ([p.1, p.2] : List Int) = [q.1, q.2]) : p = q := by
  obtain ⟨a, b⟩ := p
  simp only [List.cons.injEq, and_true] at h
  simp [h.1, h.2]
theorem of_toK : ∀ {L : Ks} {ks : Kp}, (∀ p ∈ L, p ∈ toK ks) → ∃ js : Kp, L = toK js ∧ ∀ j ∈ js, j ∈ ks
  | [], _, _ => ⟨[], rfl, nofun⟩
  | p :: L, ks, h => by
    obtain ⟨js, e, m⟩ := of_toK (L := L) (ks := ks) fun q hq => h q (List.mem_cons_of_mem _ hq)
    obtain ⟨k, mk, ek⟩ := List.mem_map.mp (h p List.mem_cons_self)
    refine ⟨k :: js, by rw [e, ← ek]; rfl, fun j hj => ?_⟩
    rcases List.mem_cons.mp hj with e | hj
    · rw [e]; exact mk
    · exact m j hj
theorem toK_snd (ks : Kp) : (toK ks).map (·.2) = (kp ks).map fun q => [q.1, q.2] := by
  unfold toK kp
  rw [List.map_map, List.map_map]
  rfl
/-- sorted(set(x)), x a list or a tuple of pairs of unlike names below 8 -/
theorem rd_sortset {P : Program} {w : World} {x : V} {Q : VK} (h : ∃ (l : Addr) (ks : Kp), x = .ref l ∧ (SqL K H l (kv ks) ∨ SqT K H l (kv ks)) ∧ KsAt K H ks ∧ In 8 (kp ks) ∧ (∀ p ∈ kp ks, p.1 ≠ p.2) ∧
    ∀ (js : Kp) (p : Addr) (H' : Hp), Same H H' → H p = none → H' p = some (.lst (kv js)) → KsAt K H' js → asc (kp js) → (∀ q, q ∈ kp js ↔ q ∈ kp ks) → Q (.ref p) H') :
    rSetKs K P w [x] H fun y H1 => rSortedT K P w [y] H1 Q := by
  obtain ⟨l, ks, rfl, hl, hk, hin, hne, q⟩ := h
  have hval : kv ks = (toK ks).map fun p => V.ref p.1 := by
    unfold kv toK
    rw [List.map_map]
    rfl
  have mem : ∀ p ∈ toK ks, ∃ k ∈ ks, p = (k.1, [k.2.1, k.2.2]) := fun p hp => by
    obtain ⟨k, mk, e⟩ := List.mem_map.mp hp
    exact ⟨k, mk, e.symm⟩
  refine ⟨l, toK ks, rfl, by rw [← hval]; exact hl, fun p hp => ?_, fun L hL nd => ?_, fun a L na sub all => ?_⟩
  · obtain ⟨k, mk, rfl⟩ := mem p hp
    exact hk k mk
  · obtain ⟨js, rfl, m⟩ := of_toK hL
    rw [toK_snd] at nd
    have nd2 : (kp js).Nodup := List.Pairwise.of_map _ (fun _ _ hne e => hne (by rw [e])) nd
    have := few8 (kp js) (fun p hp => by
      obtain ⟨j, mj, rfl⟩ := List.mem_map.mp hp
      exact hin _ (List.mem_map_of_mem (m j mj))) (fun p hp => by
      obtain ⟨j, mj, rfl⟩ := List.mem_map.mp hp
      exact hne _ (List.mem_map_of_mem (m j mj))) nd2
    unfold toK
    rw [List.length_map]
    rwa [kp_length] at this
  · obtain ⟨js, rfl, m⟩ := of_toK sub
    have sm : Same H (upd H a (SetTO P w a (toK js))) := same_new na
    have hkj : KsAt K (upd H a (SetTO P w a (toK js))) js := (KsAt.sub hk m).same sm
    have hin' : In 8 (kp js) := fun p hp => by
      obtain ⟨j, mj, rfl⟩ := List.mem_map.mp hp
      exact hin _ (List.mem_map_of_mem (m j mj))
    refine ⟨a, toK js, 2, 64, rfl, upd_same, fun p hp => ?_, by decide, fun p hp => ?_, fun L' p pm nd h64 pw np => ?_⟩
    · obtain ⟨j, mj, rfl⟩ := List.mem_map.mp hp
      exact hkj j mj
    · obtain ⟨j, mj, rfl⟩ := List.mem_map.mp hp
      exact ⟨rfl, bd_pair ((hin'.mono (by decide)) _ (List.mem_map_of_mem mj))⟩
    · obtain ⟨ds, pd, rfl⟩ := perm_map _ pm
      have np' : H p = none := sm.free np
      have nd1 : (kp ds).Nodup := by
        have nd0 : ((toK ds).map (·.2)).Nodup := nd
        rw [toK_snd] at nd0
        exact List.Pairwise.of_map _ (fun _ _ hne e => hne (by rw [e])) nd0
      have as : asc (kp ds) := by
        refine asc_of_perm (.refl _) nd1 (fun p hp => ?_) ?_
        · obtain ⟨j, mj, rfl⟩ := List.mem_map.mp hp
          exact (hin'.mono (by decide)) _ (List.mem_map_of_mem (pd.mem_iff.mp mj))
        · have e : (kp ds).Pairwise (fun p q => code p ≤ code q) ↔ _ := List.pairwise_map
          rw [e]
          refine List.Pairwise.imp (fun {i j} c => ?_) (List.pairwise_map.mp pw)
          rw [code_pair, code_pair] at c
          exact c
      have hv : ((ds.map fun k => (k.1, [k.2.1, k.2.2])).map fun q => V.ref q.1) = kv ds := by
        unfold kv
        rw [List.map_map]
        rfl
      rw [hv]
      refine q ds p _ (same_upd sm np') np' upd_same (((KsAt.sub hkj fun j mj => pd.mem_iff.mp mj)).same (same_new np)) as fun r => ?_
      constructor
      · intro hr
        obtain ⟨d, md, rfl⟩ := List.mem_map.mp hr
        exact List.mem_map_of_mem (m d (pd.mem_iff.mp md))
      · intro hr
        obtain ⟨k, mk, rfl⟩ := List.mem_map.mp hr
        have h1 := all (k.1, [k.2.1, k.2.2]) (List.mem_map.mpr ⟨k, mk, rfl⟩)
        rw [toK_snd] at h1
        obtain ⟨r, mr, er⟩ := List.mem_map.mp h1
        have e := pair_inj er
        obtain ⟨j, mj, rfl⟩ := List.mem_map.mp mr
        rw [← e]
        exact List.mem_map_of_mem (pd.mem_iff.mpr mj)
end
end Ev

namespace Ev
open PySem L2
/-! ### the tape -/
/-- what stands at the tape: the script's copy at l, of n cells; where it stands; the digits held; the mix; the picks -/
def TapeO (l : Addr) (n : Nat) (o : HO) : Prop := ∃ (pos : Nat) (big mix cnt : Int), pos ≤ n ∧ o = .lst [.ref l, .int pos, .int big, .int mix, .int cnt]
structure TapeAt (H : Hp) (t l : Addr) (ns : List Int) : Prop where
  ob : ∃ o, H t = some o ∧ TapeO l ns.length o
  ls : H l = some (.lst (ns.map V.int))
theorem TapeAt.ne {H : Hp} {t l : Addr} {ns : List Int} (T : TapeAt H t l ns) : l ≠ t := by
  obtain ⟨o, h, p, b, m, c, hp, rfl⟩ := T.ob
  refine ne_of T.ls h fun e => ?_
  have e2 := HO.lst.inj e
  cases ns with
  | nil => cases e2
  | cons x r => cases (List.cons.inj e2).1
theorem TapeAt.put {H : Hp} {t l : Addr} {ns : List Int} (T : TapeAt H t l ns) {o : HO} (h : TapeO l ns.length o) : TapeAt (upd H t o) t l ns :=
  ⟨⟨o, upd_same, h⟩, by rw [upd_ne T.ne]; exact T.ls⟩
theorem TapeAt.keepNew {H H' : Hp} {t l : Addr} {ns : List Int} (T : TapeAt H t l ns) (k : Same H H') : TapeAt H' t l ns := by
  obtain ⟨o, h, r⟩ := T.ob
  exact ⟨⟨o, k _ _ h, r⟩, k _ _ T.ls⟩
theorem TapeAt.off {H : Hp} {t l p : Addr} {ns : List Int} {o : HO} (T : TapeAt H t l ns) (h1 : p ≠ t) (h2 : p ≠ l) : TapeAt (upd H p o) t l ns := by
  obtain ⟨u, h, r⟩ := T.ob
  exact ⟨⟨u, by rw [upd_ne h1.symm]; exact h, r⟩, by rw [upd_ne h2.symm]; exact T.ls⟩
theorem TapeAt.lst {H : Hp} {t l : Addr} {ns : List Int} (T : TapeAt H t l ns) : ∃ ys, H t = some (.lst ys) := by
  obtain ⟨o, h, p, b, m, c, _, rfl⟩ := T.ob
  exact ⟨_, h⟩
end Ev

namespace Ev
open PySem L2
open C8 (pss_cut tCut)
def topS (i : Nat) : Stmt := PySem.Challenge.pw_evenorders_k15_whole_shares_of_places.main.body.getD i (.Pass ⟨0, 0, 0, 0⟩)
section
variable {P : Program} {w : World} {K : PySem.W.Frag} {mg : Str → Option Value} {base : Heap}
def sp_tape (K : PySem.W.Frag) : Sp := fun vs H Q _ => ∃ (a : Addr) (ns : List Int), vs = [.ref a] ∧ SqL K H a (ns.map V.int) ∧
  ∀ t l H', H l = none → H t = none → t ≠ l → TapeAt H' t l ns → (∀ b, b ≠ t → b ≠ l → H' b = H b) → Q (.ref t) H'
abbrev s_law_tape : Stmt := topS 35
theorem sc_law_tape : FnScope ["script"] ["script"] (defScope s_law_tape) := ⟨rfl, rfl, rfl, by decide +kernel, rfl, by decide +kernel, by decide +kernel⟩
theorem ok_tape {f : Addr} {fd : FuncData} (F : Fun K "_law_tape" "_law_tape" s_law_tape f fd) (B : Bl mg) : FnOk P w K mg base CX0 1 f fd ["script"] (sp_tape K) := by
  refine F.ok sc_law_tape (fun vs H Q E h => ?_) (fun cdv A outer s H vs Q E hr h => ?_)
  · obtain ⟨a, ns, rfl, _⟩ := h
    rfl
  · obtain ⟨a, ns, rfl, hS, q⟩ := h
    refine ⟨_, pss_one (ps_ret (pe_lst (pa_cons (pe_callTy call_list_of (by rfl) B.list (by decide +kernel) (pa_cons (pv 0) pa_nil)) (pa_cons (pe_int) (pa_cons (pe_int) (pa_cons (pe_int) (pa_cons (pe_int) pa_nil))))))), ?_⟩
    refine ⟨_, rfl, a, _, rfl, .inl hS, fun l nl => ⟨(by show 5 ≤ sizeLine; decide), fun t nt => ?_⟩⟩
    have ne : t ≠ l := fun e => by
      rw [e, upd_same] at nt
      cases nt
    have nt' : H t = none := by
      rw [upd_ne ne] at nt
      exact nt
    refine q t l _ nl nt' ne ⟨⟨_, upd_same, 0, 0, 1, 0, Nat.zero_le _, rfl⟩, by rw [upd_ne ne.symm, upd_same]⟩ fun b h1 h2 => by rw [upd_ne h1, upd_ne h2]
def sp_pick (K : PySem.W.Frag) : Sp := fun vs H Q _ => ∃ (t l : Addr) (ns : List Int) (m : Int), vs = [.ref t, .int m] ∧ TapeAt H t l ns ∧ 0 < m ∧ m < 1000000 ∧
  ∀ (v : Nat) o, (v : Int) < m → TapeO l ns.length o → Q (.int v) (upd H t o)
abbrev s_law_pick : Stmt := topS 36
theorem sc_law_pick : FnScope ["tape", "many", "digit", "cell", "mixed"] ["tape", "many"] (defScope s_law_pick) := ⟨rfl, rfl, rfl, by decide +kernel, rfl, by decide +kernel, by decide +kernel⟩
theorem ok_pick {f : Addr} {fd : FuncData} (F : Fun K "_law_pick" "_law_pick" s_law_pick f fd) (B : Bl mg) : FnOk P w K mg base CX0 1 f fd ["tape", "many"] (sp_pick K) := by
  refine F.ok sc_law_pick (fun vs H Q E h => ?_) (fun cdv A outer s H vs Q E hr h => ?_)
  · obtain ⟨t, l, ns, m, rfl, _⟩ := h
    rfl
  · obtain ⟨t, l, ns, m, rfl, T, h0, h1, q⟩ := h
    refine ⟨_, pss_cons (ps_if (pt_cmpR op_gt (pe_ix ix_list (pv 0) (pe_int) (fun _ _ => rfl)) (pe_int) (nomark _))
        (pss_cons (ps_set (i := 2) sc_law_pick.nd rfl (Or.inl rfl) (pe_op op_modN (pe_callTy call_int1 (by rfl) B.int (by decide +kernel) (pa_cons (pe_ix ix_list (pv 0) (pe_int) (fun _ _ => rfl)) pa_nil)) (pv 1)))
        (pss_cons (ps_asg (pe_op op_fdivN (pe_ix ix_list (pv 0) (pe_int) (fun _ _ => rfl)) (pv 1)) (pg_sub (pv 0) (pe_int) set_list))
        (pss_one (ps_ret (pv 2)))))
        (pss_nil))
      (pss_cons (ps_asg (pe_op op_add (pe_ix ix_list (pv 0) (pe_int) (fun _ _ => rfl)) (pe_int)) (pg_sub (pv 0) (pe_int) set_list))
      (pss_cons (ps_set (i := 3) sc_law_pick.nd rfl (Or.inl rfl) (pe_int))
      (pss_cut (ps_if (pt_cmpR op_lt (pe_ix ix_list (pv 0) (pe_int) (fun _ _ => rfl)) (pe_callB call_len_seq (by rfl) B.len (by decide +kernel) (pa_cons (pe_ix ix_list (pv 0) (pe_int) (fun _ _ => rfl)) pa_nil)) (nomark _))
        (pss_cons (ps_set (i := 3) sc_law_pick.nd rfl (Or.inl rfl) (pe_ix ix_list (pe_ix ix_list (pv 0) (pe_int) (fun _ _ => rfl)) (pe_ix ix_list (pv 0) (pe_int) (fun _ _ => rfl)) (fun _ _ => rfl)))
        (pss_one (ps_asg (pe_op op_add (pe_ix ix_list (pv 0) (pe_int) (fun _ _ => rfl)) (pe_int)) (pg_sub (pv 0) (pe_int) set_list))))
        (pss_nil))
      (pss_cons (ps_if (pt_cmpR op_ge (pv 3) (pe_op op_pow (pe_int) (pe_int)) (nomark _))
        (pss_cons (ps_asg (pe_op op_fdivN (pv 3) (pv 1)) (pg_sub (pv 0) (pe_int) set_list))
        (pss_one (ps_ret (pe_op op_modN (pe_callTy call_int1 (by rfl) B.int (by decide +kernel) (pa_cons (pv 3) pa_nil)) (pv 1)))))
        (pss_nil))
      (pss_cons (ps_set (i := 4) sc_law_pick.nd rfl (Or.inl rfl) (pe_op op_modN (pe_callTy call_int1 (by rfl) B.int (by decide +kernel) (pa_cons (pe_op op_add (pe_op op_add (pe_op op_mul (pe_ix ix_list (pv 0) (pe_int) (fun _ _ => rfl)) (pe_int)) (pe_op op_modN (pe_callTy call_int1 (by rfl) B.int (by decide +kernel) (pa_cons (pv 3) pa_nil)) (pe_int))) (pe_op op_mul (pe_ix ix_list (pv 0) (pe_int) (fun _ _ => rfl)) (pe_int))) pa_nil)) (pe_int)))
      (pss_cons (ps_set (i := 4) sc_law_pick.nd rfl (Or.inl rfl) (pe_op op_modN (pe_callTy call_int1 (by rfl) B.int (by decide +kernel) (pa_cons (pe_op op_mul (pv 4) (pe_op op_add (pe_op op_fdivN (pv 4) (pe_int)) (pe_int))) pa_nil)) (pe_int)))
      (pss_cons (ps_asg (pv 4) (pg_sub (pv 0) (pe_int) set_list))
      (pss_one (ps_ret (pe_op op_modN (pe_callTy call_int1 (by rfl) B.int (by decide +kernel) (pa_cons (pe_op op_fdivN (pv 4) (pe_int)) pa_nil)) (pv 1))))))))))), ?_⟩
    replace q : ∀ v o, 0 ≤ v → v < m → TapeO l ns.length o → Q (.int v) (upd H t o) := fun v o v0 v1 ho => by
      obtain ⟨k, rfl⟩ := Int.eq_ofNat_of_zero_le v0
      exact q k o v1 ho
    obtain ⟨⟨o, ht, pos, big, mix, cnt, hp, rfl⟩, hl⟩ := id T
    have hm : m.natAbs < 1073741824 := by omega
    have hm0 : m ≠ 0 := by omega
    have hv0 : ∀ x : Int, 0 ≤ x.fmod m := fun x => Int.fmod_nonneg_of_pos x h0
    have hv1 : ∀ x : Int, x.fmod m < m := fun x => Int.fmod_lt_of_pos x h0
    -- if tape[2] > 1
    refine ⟨_, rfl, _, _, _, _, rfl, rfl, SqL.of ht, rfl, _, _, rfl, rfl, _, rfl, ?_⟩
    refine ite2 (fun _ => ?_) (fun _ => ?_)
    · refine ⟨_, rfl, _, _, _, _, rfl, rfl, SqL.of ht, rfl, .inl ⟨_, rfl, _, rfl, _, _, rfl, rfl, hm0, ?_⟩⟩
      refine ⟨_, rfl, _, _, _, _, rfl, rfl, SqL.of ht, rfl, _, rfl, _, _, rfl, rfl, ⟨hm0, hm⟩, _, rfl, _, _, _, _, rfl, rfl, ht, rfl, ?_⟩
      exact ⟨_, rfl, q _ _ (hv0 _) (hv1 _) ⟨pos, _, mix, cnt, hp, rfl⟩⟩
    -- tape[4] = tape[4] + 1; cell = 0
    · refine ⟨_, rfl, _, _, _, _, rfl, rfl, SqL.of ht, rfl, _, _, rfl, rfl, _, rfl, _, _, _, _, rfl, rfl, ht, rfl, ?_⟩
      refine ⟨fun σ' H' => ∃ (c : Int) (o : HO), σ' = [some (.ref t), some (.int m), none, some (.int c), none] ∧ TapeO l ns.length o ∧ H' = upd H t o, ?_, ?_⟩
      · have ht1 : (upd H t (.lst [.ref l, .int pos, .int big, .int mix, .int (cnt + 1)])) t = some (.lst [.ref l, .int pos, .int big, .int mix, .int (cnt + 1)]) := upd_same
        have hl1 : (upd H t (.lst [.ref l, .int pos, .int big, .int mix, .int (cnt + 1)])) l = some (.lst (ns.map V.int)) := by
          rw [upd_ne T.ne]; exact hl
        refine ⟨_, rfl, _, _, _, _, rfl, rfl, SqL.of ht1, rfl, _, rfl, _, _, _, _, rfl, rfl, SqL.of ht1, rfl, _, _, rfl, .inl (SqL.of hl1), _, _, rfl, rfl, _, rfl, ?_⟩
        refine ite2 (fun hc => ?_) (fun _ => ?_)
        · have hlt : pos < ns.length := by
            have := of_decide_eq_true hc
            rw [List.length_map] at this
            omega
          have hg : (ns.map V.int)[pos]? = some (V.int ns[pos]) := by
            rw [List.getElem?_map, List.getElem?_eq_getElem hlt]
            rfl
          refine ⟨_, rfl, _, _, _, _, rfl, rfl, SqL.of ht1, rfl, _, rfl, _, _, _, _, rfl, rfl, SqL.of ht1, rfl, _, _, _, _, rfl, rfl, SqL.of hl1, atI_nat hg, ?_⟩
          refine ⟨_, rfl, _, _, _, _, rfl, rfl, SqL.of ht1, rfl, _, _, rfl, rfl, _, rfl, _, _, _, _, rfl, rfl, ht1, rfl, ?_⟩
          exact ⟨ns[pos], _, rfl, ⟨pos + 1, big, mix, cnt + 1, hlt, rfl⟩, upd_upd⟩
        · exact ⟨0, _, rfl, ⟨pos, big, mix, cnt + 1, hp, rfl⟩, rfl⟩
      · rintro σ' H' ⟨c, o, rfl, ⟨p2, b2, x2, c2, hp2, rfl⟩, rfl⟩
        have ht2 : (upd H t (.lst [.ref l, .int p2, .int b2, .int x2, .int c2])) t = some (.lst [.ref l, .int p2, .int b2, .int x2, .int c2]) := upd_same
        -- if cell >= 10 ** 18
        refine ⟨_, rfl, _, _, rfl, rfl, ⟨by decide, by decide, by decide⟩, _, _, rfl, rfl, _, rfl, ?_⟩
        refine ite2 (fun _ => ?_) (fun _ => ?_)
        · refine ⟨_, rfl, _, rfl, _, _, rfl, rfl, ⟨hm0, hm⟩, _, rfl, _, _, _, _, rfl, rfl, ht2, rfl, ?_⟩
          refine ⟨_, rfl, .inl ⟨_, rfl, _, rfl, _, _, rfl, rfl, hm0, ?_⟩⟩
          rw [upd_upd]
          exact q _ _ (hv0 _) (hv1 _) ⟨p2, _, x2, c2, hp2, rfl⟩
        · refine ⟨_, rfl, _, _, _, _, rfl, rfl, SqL.of ht2, rfl, _, _, rfl, rfl, .inr ⟨by decide, by decide⟩, ?_⟩
          refine ⟨_, rfl, .inl ⟨_, rfl, _, _, rfl, rfl, (by show (2147483629 : Int) ≠ 0; decide), _, _, rfl, rfl, ?_⟩⟩
          refine ⟨_, rfl, _, _, _, _, rfl, rfl, SqL.of ht2, rfl, _, _, rfl, rfl, .inr ⟨by decide, by decide⟩, _, _, rfl, rfl, .inl ⟨_, rfl, _, _, rfl, rfl, (by show (2147483647 : Int) ≠ 0; decide), ?_⟩⟩
          refine ⟨_, rfl, _, rfl, _, _, rfl, rfl, ⟨by decide, by decide⟩, _, _, rfl, rfl, _, _, rfl, rfl, .inl ⟨Int.lt_of_lt_of_le (by decide) (Int.fmod_nonneg_of_pos _ (by decide)), Int.lt_trans (Int.fmod_lt_of_pos _ (by decide)) (by decide)⟩, .inl ⟨_, rfl, _, _, rfl, rfl, (by show (2147483399 : Int) ≠ 0; decide), ?_⟩⟩
          refine ⟨_, rfl, _, rfl, _, _, _, _, rfl, rfl, ht2, rfl, ?_⟩
          refine ⟨_, rfl, _, _, rfl, rfl, ⟨by decide, by decide⟩, .inl ⟨_, rfl, _, rfl, _, _, rfl, rfl, hm0, ?_⟩⟩
          rw [upd_upd]
          exact q _ _ (hv0 _) (hv1 _) ⟨p2, b2, _, c2, hp2, rfl⟩
end
end Ev

namespace Ev
open PySem L2
open C8 (pss_cut tCut)
/-! ### a row of names, and the pairs drawn of it -/
structure RowOk (n : Nat) (rs : List Int) : Prop where
  len : rs.length = n
  nd : rs.Nodup
  bd : ∀ x ∈ rs, 0 ≤ x ∧ x < n
theorem RowOk.ins {n : Nat} {rs : List Int} (h : RowOk n rs) (k : Nat) : RowOk (n + 1) (rs.take k ++ [(n : Int)] ++ rs.drop k) := by
  have pm : (rs.take k ++ [(n : Int)] ++ rs.drop k).Perm ((n : Int) :: rs) := by
    rw [List.append_assoc]
    refine (List.perm_append_comm_assoc _ _ _).trans ?_
    rw [List.take_append_drop]
    exact .refl _
  refine ⟨by rw [pm.length_eq, List.length_cons, h.len], pm.nodup_iff.mpr (List.nodup_cons.mpr ⟨fun m => ?_, h.nd⟩), fun x m => ?_⟩
  · have := h.bd _ m
    omega
  · rcases List.mem_cons.mp (pm.mem_iff.mp m) with e | m
    · omega
    · have := h.bd _ m
      omega
structure Fnd (rs : List Int) (c : Nat) (ps : List Pr) : Prop where
  mem : ∀ p ∈ ps, p.1 ∈ rs ∧ p.2 ∈ rs ∧ plc rs p.1 < plc rs p.2 ∧ plc rs p.2 < rs.length
  key : ∀ p ∈ ps, plc rs p.1 * 64 + plc rs p.2 < c
  pw : ps.Pairwise fun p q => plc rs p.1 * 64 + plc rs p.2 < plc rs q.1 * 64 + plc rs q.2
theorem Fnd.nil (rs : List Int) (c : Nat) : Fnd rs c [] := ⟨nofun, nofun, .nil⟩
theorem Fnd.mono {rs : List Int} {c d : Nat} {ps : List Pr} (h : Fnd rs c ps) (l : c ≤ d) : Fnd rs d ps := ⟨h.mem, fun p m => Nat.lt_of_lt_of_le (h.key p m) l, h.pw⟩
theorem Fnd.step {rs : List Int} {ps : List Pr} {i j : Nat} {a b : Int} (h : Fnd rs (i * 64 + j) ps) (nd : rs.Nodup) (ha : rs[i]? = some a) (hb : rs[j]? = some b) (l : i < j) : Fnd rs (i * 64 + (j + 1)) (ps ++ [(a, b)]) := by
  have ea := plc_get nd ha
  have eb := plc_get nd hb
  have hj : j < rs.length := (List.getElem?_eq_some_iff.mp hb).1
  refine ⟨fun p m => ?_, fun p m => ?_, List.pairwise_append.mpr ⟨h.pw, List.pairwise_singleton _ _, fun p m q m' => ?_⟩⟩
  · rcases List.mem_append.mp m with m | m
    · exact h.mem p m
    · rw [List.mem_singleton.mp m]
      exact ⟨List.mem_of_getElem? ha, List.mem_of_getElem? hb, by simp only [ea, eb]; exact l, by simp only [eb]; exact hj⟩
  · rcases List.mem_append.mp m with m | m
    · have := h.key p m
      omega
    · rw [List.mem_singleton.mp m]
      simp only [ea, eb]
      omega
  · rw [List.mem_singleton.mp m']
    simp only [ea, eb]
    exact h.key p m
theorem Fnd.nodup {rs : List Int} {c : Nat} {ps : List Pr} (h : Fnd rs c ps) : ps.Nodup := h.pw.imp fun {p q} l e => by
  subst e
  omega
theorem Fnd.in {n : Nat} {rs : List Int} {c : Nat} {ps : List Pr} (h : Fnd rs c ps) (r : RowOk n rs) : In n ps := fun p m => by
  obtain ⟨h1, h2, _⟩ := h.mem p m
  exact ⟨(r.bd _ h1).1, (r.bd _ h1).2, (r.bd _ h2).1, (r.bd _ h2).2⟩
theorem Fnd.ne {rs : List Int} {c : Nat} {ps : List Pr} (h : Fnd rs c ps) : ∀ p ∈ ps, p.1 ≠ p.2 := fun p m e => by
  have := (h.mem p m).2.2.1
  rw [e] at this
  omega
theorem Fnd.ups {n : Nat} {rs : List Int} {c : Nat} {ps : List Pr} (h : Fnd rs c ps) (r : RowOk n rs) : Ups n (plc rs) ps :=
  ⟨fun a b m => (h.mem _ m).2.2.1, fun a b m => r.len ▸ (h.mem _ m).2.2.2⟩
theorem Fnd.few {n : Nat} {rs : List Int} {c : Nat} {ps : List Pr} (h : Fnd rs c ps) (r : RowOk n rs) (hn : n ≤ 8) : ps.length < 63 :=
  few8 ps ((h.in r).mono (by omega)) h.ne h.nodup
section
variable {P : Program} {w : World} {K : PySem.W.Frag} {mg : Str → Option Value} {base : Heap}
/-- what a draw of pairs hands back: p stands at ks -/
structure Drawn (n : Nat) (ps : List Pr) : Prop where
  asc : asc ps
  bd : In n ps
  up : ∃ r, Ups n r ps
def sp_pairs (K : PySem.W.Frag) : Sp := fun vs H Q _ => ∃ (t l : Addr) (ns : List Int) (m : Nat), vs = [.ref t, .int m] ∧ TapeAt H t l ns ∧ 1 ≤ m ∧ m ≤ 8 ∧
  ∀ p ks H', Keep t H H' → TapeAt H' t l ns → H p = none → H' p = some (.tup (kv ks)) → KsAt K H' ks → Drawn m (kp ks) → Q (.ref p) H'
abbrev s_law_pairs : Stmt := topS 38
theorem sc_law_pairs : FnScope ["tape", "many", "row", "name", "thin", "found", "at", "other"] ["tape", "many"] (defScope s_law_pairs) := ⟨rfl, rfl, rfl, by decide +kernel, rfl, by decide +kernel, by decide +kernel⟩
theorem keep_free {t p : Addr} {H H' : Hp} {ys : List V} (k : Keep t H H') (ht : H t = some (.lst ys)) (n : H' p = none) (hp : p ≠ t) : H p = none := by
  cases e : H p with
  | none => rfl
  | some o =>
    rw [k p o e hp] at n
    cases n
theorem ne_of_tape {H : Hp} {t p : Addr} {ys : List V} (ht : H t = some (.lst ys)) (n : H p = none) : p ≠ t := fun e => by
  rw [e, ht] at n
  cases n
theorem small64 {n : Nat} (h : n ≤ 64) : n < sizeLine := Nat.lt_of_le_of_lt h (by decide)
theorem ok_pairs {f fP : Addr} {fd fdP : FuncData} (F : Fun K "_law_pairs" "_law_pairs" s_law_pairs f fd) (D : Df K mg "_law_pick" s_law_pick ["tape", "many"] fP fdP)
    (B : Bl mg) : FnOk P w K mg base CX0 2 f fd ["tape", "many"] (sp_pairs K) := by
  have GP : FnOk P w K mg base CX0 1 fP fdP ["tape", "many"] (sp_pick K) := ok_pick D.F B
  refine F.ok sc_law_pairs (fun vs H Q E h => ?_) (fun cdv A outer s H vs Q E hr h => ?_)
  · obtain ⟨t, l, ns, m, rfl, _⟩ := h
    rfl
  · obtain ⟨t, l, ns, m, rfl, T, h1, h8, q⟩ := h
    obtain ⟨ys0, ht0⟩ := T.lst
    refine ⟨_, pss_cons (ps_set (i := 2) sc_law_pairs.nd rfl (Or.inl rfl) (pe_lst pa_nil))
      (pss_cut (ps_for PassesOwn.never rfl (pi_range1 (by rfl) B.range (pa_cons (pv 1) pa_nil)) (pg_name (i := 3) sc_law_pairs.nd rfl (Or.inl rfl))
        (pss_one (ps_expr (pe_bm PySem.F.plainAttrs_list PySem.F.slot_list_insert PySem.F.type_list_insert mt_insert (pv 2) (pa_cons (pe_call GP hr rfl D.g D.F.kp D.b .nil pass0 (pa_cons (pv 0) (pa_cons (pe_op op_add (pv 3) (pe_int)) pa_nil))) (pa_cons (pv 3) pa_nil))))))
      (pss_cons (ps_set (i := 4) sc_law_pairs.nd rfl (Or.inl rfl) (pe_op op_add (pe_int) (pe_call GP hr rfl D.g D.F.kp D.b .nil pass0 (pa_cons (pv 0) (pa_cons (pe_int) pa_nil)))))
      (pss_cons (ps_set (i := 5) sc_law_pairs.nd rfl (Or.inl rfl) (pe_lst pa_nil))
      (pss_cut (ps_for PassesOwn.never rfl (pi_range1 (by rfl) B.range (pa_cons (pv 1) pa_nil)) (pg_name (i := 6) sc_law_pairs.nd rfl (Or.inl rfl))
        (pss_one (ps_for PassesOwn.never rfl (pi_range2 (by rfl) B.range (pa_cons (pe_op op_add (pv 6) (pe_int)) (pa_cons (pv 1) pa_nil))) (pg_name (i := 7) sc_law_pairs.nd rfl (Or.inl rfl))
          (pss_one (ps_if (pt_cmpR op_eq (pe_call GP hr rfl D.g D.F.kp D.b .nil pass0 (pa_cons (pv 0) (pa_cons (pv 4) pa_nil))) (pe_int) (nomark _))
            (pss_one (ps_expr (pe_bm PySem.F.plainAttrs_list PySem.F.slot_list_append PySem.F.type_list_append mt_append (pv 5) (pa_cons (pe_tup (pa_cons (pe_ix ix_list (pv 2) (pv 6) (fun _ _ => rfl)) (pa_cons (pe_ix ix_list (pv 2) (pv 7) (fun _ _ => rfl)) pa_nil))) pa_nil))))
            (pss_nil))))))
      (pss_one (ps_ret (pe_callTy call_tuple_of (by rfl) B.tuple (by decide +kernel) (pa_cons (pe_callB (cr_sortT (d := 2) (B := 64) (by decide)) (by rfl) B.sorted (by decide +kernel) (pa_cons (pv 5) pa_nil)) pa_nil)))))))), ?_⟩
    -- row = []
    refine ⟨Nat.zero_le _, fun r nr => ?_⟩
    have rt : r ≠ t := ne_of_tape ht0 nr
    -- for name in range(many)
    refine ⟨fun σ' H' => ∃ (rs : List Int) (v : Option V), σ' = [some (.ref t), some (.int m), some (.ref r), v, none, none, none, none] ∧ RowOk m rs ∧ H' r = some (.lst (rs.map V.int)) ∧ Keep t H H' ∧ TapeAt H' t l ns, ?_, ?_⟩
    · refine ⟨_, rfl, m, rfl, by omega, by omega, for_range (lo := 0) (n := m) (fun i σ' H' => ∃ (rs : List Int) (v : Option V), σ' = [some (.ref t), some (.int m), some (.ref r), v, none, none, none, none] ∧ RowOk i rs ∧ H' r = some (.lst (rs.map V.int)) ∧ Keep t H H' ∧ TapeAt H' t l ns) ?_ ?_ ?_⟩
      · exact ⟨[], none, rfl, ⟨rfl, .nil, nofun⟩, upd_same, (Keep.refl t H).new nr, T.keepNew (same_new nr)⟩
      · rintro i σ' H1 hi ⟨rs, v, rfl, R, hr1, k1, T1⟩
        refine ⟨_, rfl, .inl ⟨rfl, _, SqL.of hr1⟩, _, rfl, _, rfl, _, _, rfl, rfl, t, l, ns, _, rfl, T1, by omega, by omega, fun vn o v1 ho => ?_⟩
        have v0 : (0 : Int) ≤ (vn : Int) := by omega
        generalize (vn : Int) = v at v0 v1 ⊢
        have hr2 : (upd H1 t o) r = some (.lst (rs.map V.int)) := by
          rw [upd_ne rt]
          exact hr1
        refine ⟨_, rfl, r, _, v, _, rfl, rfl, hr2, ?_, v0, by omega, ?_⟩
        · rw [List.length_map, R.len]
          exact small64 (by omega)
        · have e : ((rs.map V.int).take v.toNat ++ [V.int (0 + i)] ++ (rs.map V.int).drop v.toNat) = (rs.take v.toNat ++ [(i : Int)] ++ rs.drop v.toNat).map V.int := by
            rw [List.map_append, List.map_append, List.map_take, List.map_drop, Int.zero_add]
            rfl
          rw [e]
          refine ⟨_, _, rfl, R.ins v.toNat, upd_same, (k1.upd.new (o := _) nr), ?_⟩
          exact (T1.put ho).off rt (ne_of_none T.ls nr).symm
      · rintro σ' H1 ⟨rs, v, rfl, R, hr1, k1, T1⟩
        exact ⟨rs, v, rfl, R, hr1, k1, T1⟩
    · rintro σ' H1 ⟨rs, v, rfl, R, hr1, k1, T1⟩
      have rl : r ≠ l := (ne_of_none T.ls nr).symm
      -- thin = 2 + _law_pick(tape, 4); found = []
      refine ⟨_, rfl, t, l, ns, 4, rfl, T1, by decide, by decide, fun vn o v1 ho => ⟨_, _, rfl, rfl, Nat.zero_le _, fun d nd => ?_⟩⟩
      have v0 : (0 : Int) ≤ (vn : Int) := by omega
      generalize (vn : Int) = v4 at v0 v1 ⊢
      have T2 := T1.put ho
      have hr2 : (upd H1 t o) r = some (.lst (rs.map V.int)) := by
        rw [upd_ne rt]
        exact hr1
      have k2 : Keep t H (upd H1 t o) := k1.upd
      obtain ⟨ys2, ht2⟩ := T2.lst
      have dt : d ≠ t := ne_of_tape ht2 nd
      have dl : d ≠ l := (ne_of_none T2.ls nd).symm
      have dr : d ≠ r := (ne_of_none hr2 nd).symm
      have nd0 : H d = none := keep_free k2 ht0 nd dt
      -- for at in range(many)
      refine ⟨fun σ' H' => ∃ (ks : Kp) (a b c : Option V), σ' = [some (.ref t), some (.int m), some (.ref r), v, some (.int (2 + v4)), some (.ref d), a, b] ∧ Fnd rs (m * 64) (kp ks) ∧ H' d = some (.lst (kv ks)) ∧ KsAt K H' ks ∧ Keep t H H' ∧ TapeAt H' t l ns, ?_, ?_⟩
      · refine ⟨_, rfl, m, rfl, by omega, by omega, for_range (lo := 0) (n := m) (fun i σ' H' => ∃ (ks : Kp) (a b : Option V), σ' = [some (.ref t), some (.int m), some (.ref r), v, some (.int (2 + v4)), some (.ref d), a, b] ∧ Fnd rs (i * 64) (kp ks) ∧ H' d = some (.lst (kv ks)) ∧ KsAt K H' ks ∧ H' r = some (.lst (rs.map V.int)) ∧ Keep t H H' ∧ TapeAt H' t l ns) ?_ ?_ ?_⟩
        · exact ⟨[], none, none, rfl, .nil _ _, upd_same, .nil, by rw [upd_ne dr.symm]; exact hr2, k2.new nd0, T2.off dt dl⟩
        · rintro i σ' H3 hi ⟨ks, a, b, rfl, fn, hd3, hk3, hr3, k3, T3⟩
          -- for other in range(at + 1, many)
          refine ⟨_, rfl, _, _, rfl, rfl, _, rfl, 0 + (i : Int) + 1, m, rfl, ⟨by omega, by omega, by omega, by omega⟩, for_range (lo := 0 + (i : Int) + 1) (n := ((m : Int) - (0 + (i : Int) + 1)).toNat) (fun j σ' H' => ∃ (ks : Kp) (b : Option V), σ' = [some (.ref t), some (.int m), some (.ref r), v, some (.int (2 + v4)), some (.ref d), some (.int (0 + i)), b] ∧ Fnd rs (i * 64 + (i + 1 + j)) (kp ks) ∧ H' d = some (.lst (kv ks)) ∧ KsAt K H' ks ∧ H' r = some (.lst (rs.map V.int)) ∧ Keep t H H' ∧ TapeAt H' t l ns) ?_ ?_ ?_⟩
          · exact ⟨ks, b, rfl, fn.mono (by omega), hd3, hk3, hr3, k3, T3⟩
          · rintro j σ' H4 hj ⟨ks, b, rfl, fn, hd4, hk4, hr4, k4, T4⟩
            have hjm : i + 1 + j < m := by omega
            obtain ⟨ys4, ht4⟩ := T4.lst
            -- if _law_pick(tape, thin) == 0
            refine ⟨_, rfl, _, rfl, t, l, ns, _, rfl, T4, by omega, by omega, fun v5 o5 v51 ho5 => ⟨rfl, _, rfl, ?_⟩⟩
            have T5 := T4.put ho5
            have hd5 : (upd H4 t o5) d = some (.lst (kv ks)) := by
              rw [upd_ne dt]
              exact hd4
            have hr5 : (upd H4 t o5) r = some (.lst (rs.map V.int)) := by
              rw [upd_ne rt]
              exact hr4
            have k5 : Keep t H (upd H4 t o5) := k4.upd
            have hk5 : KsAt K (upd H4 t o5) ks := hk4.keep (Keep.refl t H4).upd ht4
            have gi : rs[i]? = some (rs[i]'(by rw [R.len]; omega)) := List.getElem?_eq_getElem _
            have gj : rs[i + 1 + j]? = some (rs[i + 1 + j]'(by rw [R.len]; omega)) := List.getElem?_eq_getElem _
            generalize hx : rs[i]'(by rw [R.len]; omega) = x at gi
            generalize hy : rs[i + 1 + j]'(by rw [R.len]; omega) = y at gj
            have gix : (rs.map V.int)[i]? = some (V.int x) := by
              rw [List.getElem?_map, gi]
              rfl
            have gjy : (rs.map V.int)[i + 1 + j]? = some (V.int y) := by
              rw [List.getElem?_map, gj]
              rfl
            have ei : (0 : Int) + (i : Int) = ((i : Nat) : Int) := by omega
            have ej : (0 : Int) + (i : Int) + 1 + (j : Int) = ((i + 1 + j : Nat) : Int) := by omega
            refine ite2 (fun _ => ?_) (fun _ => ?_)
            · obtain ⟨ys5, ht5⟩ := T5.lst
              refine ⟨_, rfl, .inl ⟨rfl, _, SqL.of hd5⟩, _, rfl, _, rfl, _, _, _, _, rfl, rfl, SqL.of hr5, by rw [ei]; exact atI_nat gix, _, rfl, _, rfl, _, _, _, _, rfl, rfl, SqL.of hr5, by rw [ej]; exact atI_nat gjy, (by show 2 ≤ sizeLine; decide), fun p np => ?_⟩
              have pt : p ≠ t := ne_of_tape ht5 np
              have pl : p ≠ l := (ne_of_none T5.ls np).symm
              have pd : d ≠ p := ne_of_none hd5 np
              have pr : r ≠ p := ne_of_none hr5 np
              have np0 : H p = none := keep_free k5 ht0 np pt
              refine ⟨d, _, _, rfl, rfl, by rw [upd_ne pd]; exact hd5, ?_, ?_⟩
              · have := fn.few R h8
                rw [kp_length] at this
                rw [kv_length]
                exact small64 (by omega)
              · have nd0' : H d = none := nd0
                refine ⟨ks ++ [(p, (x, y))], _, rfl, ?_, ?_, ?_, ?_, (k5.new np0).new nd0', (T5.off pt pl).off dt dl⟩
                · rw [kp_append]
                  exact fn.step R.nd gi gj (by omega)
                · rw [kv_append]
                  exact upd_same
                · exact (hk5.snoc np).keep (t := d) (Keep.refl d _).upd (by rw [upd_ne pd]; exact hd5)
                · rw [upd_ne dr.symm, upd_ne pr]
                  exact hr5
            · exact ⟨ks, _, rfl, fn.mono (by omega), hd5, hk5, hr5, k5, T5⟩
          · rintro σ' H4 ⟨ks, b, rfl, fn, hd4, hk4, hr4, k4, T4⟩
            exact ⟨ks, _, _, rfl, fn.mono (by omega), hd4, hk4, hr4, k4, T4⟩
        · rintro σ' H3 ⟨ks, a, b, rfl, fn, hd3, hk3, hr3, k3, T3⟩
          exact ⟨ks, a, b, none, rfl, fn, hd3, hk3, k3, T3⟩
      · rintro σ' H3 ⟨ks, a, b, c, rfl, fn, hd3, hk3, k3, T3⟩
        obtain ⟨ys3, ht3⟩ := T3.lst
        have fw := fn.few R h8
        rw [kp_length] at fw
        refine ⟨_, rfl, ?_⟩
        dsimp only [tNil]
        refine rd_sort ⟨d, ks, rfl, SqL.of hd3, hk3, by omega, ((fn.in R).mono (by omega)), fn.nodup, fun js p pm as np => ?_⟩
        have pt : p ≠ t := ne_of_tape ht3 np
        have pl : p ≠ l := (ne_of_none T3.ls np).symm
        have np0 : H p = none := keep_free k3 ht0 np pt
        refine ⟨p, _, rfl, .inl ⟨SqL.of upd_same, fun z nz => ?_⟩⟩
        have nz3 : H3 z = none := (same_new np).free nz
        have zt : z ≠ t := ne_of_tape ht3 nz3
        have zl : z ≠ l := (ne_of_none T3.ls nz3).symm
        have mem : ∀ x ∈ kp js, x ∈ kp ks := fun x m => (pm.map _).mem_iff.mp m
        exact q z js _ ((k3.new np0).new (keep_free k3 ht0 nz3 zt)) ((T3.off pt pl).off zt zl) (keep_free k3 ht0 nz3 zt) upd_same (((hk3.sub fun j m => pm.mem_iff.mp m).same (same_new np)).same (same_new nz))
          ⟨as, (fn.in R).sub mem, plc rs, (fn.ups R).sub mem⟩
end
end Ev

namespace Ev
open PySem L2
open C8 (pss_cut tCut)
/-! ### the law's own closing -/
def comp (a b : Int) (l : List Pr) : List Pr := (l.filter fun q => decide (q.1 = b)).map fun q => (a, q.2)
theorem comp_mem {a b : Int} {l : List Pr} {x y : Int} : (x, y) ∈ comp a b l ↔ x = a ∧ (b, y) ∈ l := by
  unfold comp
  rw [List.mem_map]
  constructor
  · rintro ⟨⟨c, d⟩, m, e⟩
    rw [List.mem_filter] at m
    obtain ⟨m, k⟩ := m
    have k := of_decide_eq_true k
    cases e
    cases k
    exact ⟨rfl, m⟩
  · rintro ⟨rfl, m⟩
    exact ⟨(b, y), List.mem_filter.mpr ⟨m, decide_eq_true rfl⟩, rfl⟩
theorem comp_length (a b : Int) (l : List Pr) : (comp a b l).length ≤ l.length := by
  unfold comp
  rw [List.length_map]
  exact List.length_filter_le _ _
theorem take_snoc {α : Type} {l : List α} {i : Nat} {x : α} (h : l[i]? = some x) : l.take (i + 1) = l.take i ++ [x] := by
  rw [List.take_add_one, h]
  rfl
theorem comp_yes {a b : Int} {l : List Pr} {i : Nat} {q : Pr} (h : l[i]? = some q) (e : q.1 = b) : comp a b (l.take (i + 1)) = comp a b (l.take i) ++ [(a, q.2)] := by
  rw [take_snoc h]
  unfold comp
  rw [List.filter_append, List.map_append]
  congr 1
  simp [e]
theorem comp_no {a b : Int} {l : List Pr} {i : Nat} {q : Pr} (h : l[i]? = some q) (e : ¬ q.1 = b) : comp a b (l.take (i + 1)) = comp a b (l.take i) := by
  rw [take_snoc h]
  unfold comp
  rw [List.filter_append, List.map_append]
  simp [e]
/-- all that follows by two -/
def twos (l r : List Pr) : List Pr := r.flatMap fun q => comp q.1 q.2 l
theorem twos_snoc {l r : List Pr} {i : Nat} {q : Pr} (h : r[i]? = some q) : twos l (r.take (i + 1)) = twos l (r.take i) ++ comp q.1 q.2 l := by
  rw [take_snoc h]
  unfold twos
  rw [List.flatMap_append, List.flatMap_singleton]
theorem twos_length {l r : List Pr} : (twos l r).length ≤ r.length * l.length := by
  induction r with
  | nil => exact Nat.zero_le _
  | cons q r ih =>
    have e : twos l (q :: r) = comp q.1 q.2 l ++ twos l r := rfl
    rw [e, List.length_append, List.length_cons, Nat.succ_mul]
    have := comp_length q.1 q.2 l
    omega
theorem twos_mem {l r : List Pr} {x y : Int} : (x, y) ∈ twos l r ↔ ∃ b, (x, b) ∈ r ∧ (b, y) ∈ l := by
  unfold twos
  rw [List.mem_flatMap]
  constructor
  · rintro ⟨⟨a, b⟩, m, h⟩
    obtain ⟨rfl, h⟩ := comp_mem.mp h
    exact ⟨b, m, h⟩
  · rintro ⟨b, m, h⟩
    exact ⟨(x, b), m, comp_mem.mpr ⟨rfl, h⟩⟩
theorem small10000 {n : Nat} (h : n ≤ 10000) : n < sizeLine := Nat.lt_of_le_of_lt h (by decide)
/-- pairs that go up, of names below 8 -/
structure UpsOk (ps : List Pr) : Prop where
  bd : In 8 ps
  up : ∃ r, Ups 8 r ps
theorem UpsOk.ne {ps : List Pr} (h : UpsOk ps) : ∀ p ∈ ps, p.1 ≠ p.2 := fun p m e => by
  obtain ⟨r, u⟩ := h.up
  have := u.up p.1 p.2 m
  rw [e] at this
  omega
theorem UpsOk.tc {ps qs : List Pr} (h : UpsOk ps) (k : ∀ p ∈ qs, Tc ps p.1 p.2) : UpsOk qs := by
  obtain ⟨r, u⟩ := h.up
  exact ⟨fun p m => (k p m).in h.bd, r, ⟨fun a b m => (u.tc (k _ m)).1, fun a b m => (u.tc (k _ m)).2⟩⟩
theorem UpsOk.sub {ps qs : List Pr} (h : UpsOk ps) (k : ∀ p ∈ qs, p ∈ ps) : UpsOk qs := h.tc fun p m => .one (k p m)
theorem UpsOk.few {ps : List Pr} (h : UpsOk ps) (a : asc ps) : ps.length < 63 := few8 ps h.bd h.ne (asc_nodup a)
theorem Rnd.tc {ps F : List Pr} {k : Nat} (h : Rnd ps k F) : ∀ p ∈ F, Tc ps p.1 p.2 := fun p m => by
  obtain ⟨n, h1, _, q⟩ := (h p.1 p.2).mp m
  exact ⟨n, h1, q⟩
theorem Drawn.ok {n : Nat} {ps : List Pr} (h : Drawn n ps) (hn : n ≤ 8) : UpsOk ps := by
  obtain ⟨r, u⟩ := h.up
  exact ⟨h.bd.mono (by omega), r, u.up, fun a b m => Nat.lt_of_lt_of_le (u.top a b m) hn⟩
section
variable {P : Program} {w : World} {K : PySem.W.Frag} {mg : Str → Option Value} {base : Heap}
def sp_closed (K : PySem.W.Frag) : Sp := fun vs H Q _ => ∃ (a : Addr) (ks : Kp), vs = [.ref a] ∧ (SqL K H a (kv ks) ∨ SqT K H a (kv ks)) ∧ KsAt K H ks ∧ UpsOk (kp ks) ∧
  ∀ p js H', Same H H' → H p = none → H' p = some (.tup (kv js)) → KsAt K H' js → Cl (kp ks) (kp js) → Q (.ref p) H'
abbrev s_law_closed : Stmt := topS 37
abbrev n_law_closed : List Str := ["pairs", "found", "turn", "more", "one", "middle", "first", "other", "pair"]
theorem sc_law_closed : FnScope n_law_closed ["pairs"] (defScope s_law_closed) := ⟨rfl, rfl, rfl, by decide +kernel, rfl, by decide +kernel, by decide +kernel⟩
theorem ok_closed {f : Addr} {fd : FuncData} (F : Fun K "_law_closed" "_law_closed" s_law_closed f fd)
    (B : Bl mg) : FnOk P w K mg base CX0 1 f fd ["pairs"] (sp_closed K) := by
  refine F.ok sc_law_closed (fun vs H Q E h => ?_) (fun cdv A outer s H vs Q E hr h => ?_)
  · obtain ⟨a, ks, rfl, _⟩ := h
    rfl
  · obtain ⟨a, ks, rfl, hS, hk, ok, q⟩ := h
    refine ⟨_, pss_cons (ps_set (i := 1) sc_law_closed.nd rfl (Or.inl rfl) (pe_callB (cr_sortedT rfl) (by rfl) B.sorted (by decide +kernel) (pa_cons (pe_callTy (cr_setKs rfl hr.units) (by rfl) B.set (by decide +kernel) (pa_cons (pv 0) pa_nil)) pa_nil)))
      (pss_cut (ps_for PassesOwn.never rfl (pi_range1 (by rfl) B.range (pa_cons (pe_int) pa_nil)) (pg_name (i := 2) sc_law_closed.nd rfl (Or.inl rfl))
        (pss_cons (ps_set (i := 3) sc_law_closed.nd rfl (Or.inl rfl) (pe_lst pa_nil))
        (pss_cut (ps_for PassesOwn.never rfl (pi_list (pv 1)) (pg_tup (by rfl) (pgs_cons (pg_name (i := 4) sc_law_closed.nd rfl (Or.inr rfl)) (pgs_cons (pg_name (i := 5) sc_law_closed.nd rfl (Or.inr rfl)) pgs_nil)))
          (pss_one (ps_set (i := 3) sc_law_closed.nd rfl (Or.inl rfl) (pe_op op_cat (pv 3) (pe_lc (own := [("first", 6), ("other", 7)]) (g := gTup K 2 (gCons (gName 6) (gCons (gName 7) gNil))) (by rfl) sc_law_closed.nd (pi_list (pv 1)) (blkOk_by (N := n_law_closed) (sc := defScope s_law_closed) (by decide +kernel)) (fun _ _ _ _ _ => by exact pg_tup (by rfl) (pgs_cons (pg_name (i := 6) sc_law_closed.nd rfl (Or.inl rfl)) (pgs_cons (pg_name (i := 7) sc_law_closed.nd rfl (Or.inl rfl)) pgs_nil))) (fun _ _ _ _ _ => by exact pts_one (pt_cmpR op_eq (pv 6) (pv 5) (nomark _))) (fun _ _ _ _ _ => by exact pe_tup (pa_cons (pv 4) (pa_cons (pv 7) pa_nil))))))))
        (pss_one (ps_set (i := 1) sc_law_closed.nd rfl (Or.inl rfl) (pe_callB (cr_sortedT rfl) (by rfl) B.sorted (by decide +kernel) (pa_cons (pe_callTy (cr_setKs rfl hr.units) (by rfl) B.set (by decide +kernel) (pa_cons (pe_op op_cat (pv 1) (pv 3)) pa_nil)) pa_nil)))))))
      (pss_cons (ps_if (pt_cmpR op_gt (pe_callB call_len_seq (by rfl) B.len (by decide +kernel) (pa_cons (pe_lc (own := [("pair", 8)]) (tt := tTest (tOp rEq (tOp (rIxT K) (tVar 8) (tC (.int 0))) (tOp (rIxT K) (tVar 8) (tC (.int 1))))) (by rfl) sc_law_closed.nd (pi_list (pv 1)) (blkOk_by (N := n_law_closed) (sc := defScope s_law_closed) (by decide +kernel)) (fun _ _ _ _ _ => pg_name (i := 8) sc_law_closed.nd rfl (Or.inl rfl)) (fun _ _ _ _ _ => by exact pts_one (pt_cmpR op_eq (pe_ix ix_tup (pv 8) (pe_int) (fun _ _ => rfl)) (pe_ix ix_tup (pv 8) (pe_int) (fun _ _ => rfl)) (nomark _))) (fun _ _ _ _ _ => pv 8)) pa_nil)) (pe_int) (nomark _))
        (pss_one (ps_ret (pe_non)))
        (pss_nil))
      (pss_one (ps_ret (pe_callTy call_tuple_of (by rfl) B.tuple (by decide +kernel) (pa_cons (pv 1) pa_nil)))))), ?_⟩
    refine ⟨_, rfl, ?_⟩
    dsimp only [tNil]
    refine rd_sortset (K := K) ⟨a, ks, rfl, hS, hk, ok.bd, ok.ne, fun fs fa H1 sm nfa hfa hkf as mem => ?_⟩
    -- for turn in range(4)
    refine ⟨fun σ' H' => ∃ (fs : Kp) (fa : Addr) (v2 v3 v4 v5 : Option V), σ' = [some (.ref a), some (.ref fa), v2, v3, v4, v5, none, none, none] ∧ Same H H' ∧ H' fa = some (.lst (kv fs)) ∧ KsAt K H' fs ∧ Rnd (kp ks) 4 (kp fs) ∧ asc (kp fs), ?_, ?_⟩
    · refine ⟨_, rfl, by decide, by decide, for_range (lo := 0) (n := 4) (fun i σ' H' => ∃ (fs : Kp) (fa : Addr) (v2 v3 v4 v5 : Option V), σ' = [some (.ref a), some (.ref fa), v2, v3, v4, v5, none, none, none] ∧ Same H H' ∧ H' fa = some (.lst (kv fs)) ∧ KsAt K H' fs ∧ Rnd (kp ks) i (kp fs) ∧ asc (kp fs)) ?_ ?_ ?_⟩
      · exact ⟨fs, fa, none, none, none, none, rfl, sm, hfa, hkf, .zero mem, as⟩
      · clear sm nfa hfa hkf as mem
        rintro i σ' H2 hi ⟨fs, fa, v2, v3, v4, v5, rfl, sm2, hfa, hkf, rnd, as⟩
        have okf : UpsOk (kp fs) := ok.tc rnd.tc
        have lf := okf.few as
        rw [kp_length] at lf
        -- more = []
        refine ⟨Nat.zero_le _, fun md nmd => ?_⟩
        have nmd0 : H md = none := sm2.free nmd
        -- for one, middle in found
        refine ⟨fun σ' H' => ∃ (ms : Kp) (md : Addr) (v4 v5 : Option V), σ' = [some (.ref a), some (.ref fa), some (.int (0 + i)), some (.ref md), v4, v5, none, none, none] ∧ Same H H' ∧ H' fa = some (.lst (kv fs)) ∧ KsAt K H' fs ∧ H' md = some (.lst (kv ms)) ∧ KsAt K H' ms ∧ kp ms = twos (kp fs) (kp fs), ?_, ?_⟩
        · refine ⟨_, rfl, fa, rfl, ⟨_, SqL.of (by rw [upd_ne (ne_of_none hfa nmd)]; exact hfa)⟩, for_list (K := K) (a := fa) (xs := kv fs) (fun j σ' H' => ∃ (ms : Kp) (md : Addr) (v4 v5 : Option V), σ' = [some (.ref a), some (.ref fa), some (.int (0 + i)), some (.ref md), v4, v5, none, none, none] ∧ Same H H' ∧ H' fa = some (.lst (kv fs)) ∧ KsAt K H' fs ∧ H' md = some (.lst (kv ms)) ∧ KsAt K H' ms ∧ kp ms = twos (kp fs) ((kp fs).take j)) ?_ ?_ ?_ ?_⟩
          · exact ⟨[], md, v4, v5, rfl, same_upd sm2 nmd0, by rw [upd_ne (ne_of_none hfa nmd)]; exact hfa, hkf.same (same_new nmd), upd_same, .nil, rfl⟩
          · rintro j σ' H3 _ ⟨ms, md, v4, v5, rfl, sm3, hfa3, _⟩
            exact SqL.of hfa3
          · clear nmd nmd0
            rintro j x σ' H3 hj ⟨ms, md, v4, v5, rfl, sm3, hfa3, hkf3, hmd3, hkm3, em⟩
            obtain ⟨⟨pa, x1, x2⟩, gk, rfl⟩ := get_kv hj
            have hjl : j < fs.length := (List.getElem?_eq_some_iff.mp gk).1
            have lm : ms.length ≤ 62 * 62 := by
              rw [← kp_length ms, em]
              refine Nat.le_trans twos_length (Nat.mul_le_mul ?_ ?_)
              · rw [List.length_take, kp_length]
                omega
              · rw [kp_length]
                omega
            refine ⟨pa, _, rfl, hkf3 _ (List.mem_of_getElem? gk), rfl, _, _, rfl, _, _, rfl, rfl, ?_⟩
            -- more + [.. for first, other in found if first == middle]
            refine ⟨_, rfl, _, rfl, fa, rfl, ⟨_, SqL.of hfa3⟩, fun D nD => ?_⟩
            have fD : fa ≠ D := ne_of_none hfa3 nD
            refine lc_list (K := K) (a := fa) (xs := kv fs) (fun n H' => ∃ acc : Kp, Same H3 H' ∧ H' D = some (.lst (kv acc)) ∧ KsAt K H' acc ∧ kp acc = comp x1 x2 ((kp fs).take n)) ?_ ?_ ?_ ?_
            · exact ⟨[], same_new nD, upd_same, .nil, rfl⟩
            · rintro n H4 _ ⟨acc, sm4, _⟩
              exact SqL.of (sm4 _ _ hfa3)
            · rintro n y H4 hn ⟨acc, sm4, hD4, hka4, ea⟩
              obtain ⟨⟨pb, y1, y2⟩, gn, rfl⟩ := get_kv hn
              have hnl : n < fs.length := (List.getElem?_eq_some_iff.mp gn).1
              have la : acc.length ≤ 62 := by
                rw [← kp_length acc, ea]
                refine Nat.le_trans (comp_length _ _ _) ?_
                rw [List.length_take, kp_length]
                omega
              refine ⟨pb, _, rfl, (hkf3.same sm4) _ (List.mem_of_getElem? gn), rfl, _, _, rfl, _, _, rfl, rfl, rfl, _, rfl, _, rfl, rfl, _, rfl, ?_⟩
              refine ite2 (fun c => ?_) (fun c => ?_)
              · have e : y1 = x2 := V.int.inj (of_decide_eq_true c)
                refine ⟨_, rfl, _, rfl, (by show 2 ≤ sizeLine; decide), fun p np => ?_⟩
                have Dp : D ≠ p := ne_of_none hD4 np
                have np3 : H3 p = none := sm4.free np
                refine ⟨kv acc, by rw [upd_ne Dp]; exact hD4, by rw [kv_length]; exact small64 (by omega), acc ++ [(p, (x1, y2))], same_upd (same_upd sm4 np3) nD, ?_, ?_, ?_⟩
                · rw [kv_append]
                  exact upd_same
                · exact (hka4.snoc (q := (x1, y2)) np).keep (t := D) (Keep.refl D _).upd (by rw [upd_ne Dp]; exact hD4)
                · rw [kp_append, ea, comp_yes (kp_get gn) e]
                  rfl
              · have e : ¬ y1 = x2 := fun e => c (decide_eq_true (by rw [e]))
                exact ⟨acc, sm4, hD4, hka4, by rw [ea, comp_no (kp_get gn) e]⟩
            · rintro H4 ⟨acc, sm4, hD4, hka4, ea⟩
              have et : (kp fs).take (kv fs).length = kp fs := List.take_of_length_le (by rw [kp_length, kv_length]; exact Nat.le_refl _)
              rw [et] at ea
              have la : acc.length ≤ 62 := by
                rw [← kp_length acc, ea]
                refine Nat.le_trans (comp_length _ _ _) ?_
                rw [kp_length]
                omega
              refine ⟨md, D, _, _, rfl, rfl, sm4 _ _ hmd3, hD4, by rw [kv_length, kv_length]; exact Nat.le_of_lt (small10000 (by omega)), fun p np => ?_⟩
              have np3 : H3 p = none := sm4.free np
              refine ⟨ms ++ acc, p, _, _, rfl, same_upd (sm3.trans sm4) (sm3.free np3), ?_, (hkf3.same sm4).same (same_new np), ?_, ((hkm3.same sm4).append hka4).same (same_new np), ?_⟩
              · rw [upd_ne (ne_of_none (sm4 _ _ hfa3) np)]
                exact sm4 _ _ hfa3
              · rw [kv_append]
                exact upd_same
              · rw [kp_append, em, ea, twos_snoc (kp_get gk)]
          · rintro σ' H3 ⟨ms, md, v4, v5, rfl, sm3, hfa3, hkf3, hmd3, hkm3, em⟩
            have et : (kp fs).take (kv fs).length = kp fs := List.take_of_length_le (by rw [kp_length, kv_length]; exact Nat.le_refl _)
            rw [et] at em
            exact ⟨ms, md, v4, v5, rfl, sm3, hfa3, hkf3, hmd3, hkm3, em⟩
        · clear nmd nmd0
          rintro σ' H3 ⟨ms, md, v4, v5, rfl, sm3, hfa3, hkf3, hmd3, hkm3, em⟩
          have lm : ms.length ≤ 62 * 62 := by
            rw [← kp_length ms, em]
            refine Nat.le_trans twos_length (Nat.mul_le_mul ?_ ?_) <;> (rw [kp_length]; omega)
          -- found = sorted(set(found + more))
          refine ⟨_, rfl, _, rfl, fa, md, _, _, rfl, rfl, hfa3, hmd3, by rw [kv_length, kv_length]; exact Nat.le_of_lt (small10000 (by omega)), fun p np => ?_⟩
          dsimp only [tNil]
          have mem2 : ∀ a c, (a, c) ∈ kp (fs ++ ms) ↔ (a, c) ∈ kp fs ∨ ∃ b, (a, b) ∈ kp fs ∧ (b, c) ∈ kp fs := fun a c => by
            rw [kp_append, List.mem_append, em, twos_mem]
          have ok2 : UpsOk (kp (fs ++ ms)) := okf.tc fun ⟨a, c⟩ m => by
            rcases (mem2 a c).mp m with m | ⟨b, m1, m2⟩
            · exact .one m
            · exact (Tc.one m1).trans (.one m2)
          refine rd_sortset (K := K) ⟨p, fs ++ ms, rfl, .inl (SqL.of (by rw [kv_append]; exact upd_same)), (hkf3.append hkm3).same (same_new np), ok2.bd, ok2.ne, fun gs ga H5 sm5 nga hga hkg ag memg => ?_⟩
          refine ⟨gs, ga, _, _, _, _, rfl, (same_upd sm3 (sm3.free np)).trans sm5, hga, hkg, rnd.succ fun a c => ?_, ag⟩
          rw [memg]
          exact mem2 a c
      · rintro σ' H2 ⟨fs, fa, v2, v3, v4, v5, rfl, sm2, hfa, hkf, rnd, as⟩
        exact ⟨fs, fa, v2, v3, v4, v5, rfl, sm2, hfa, hkf, rnd, as⟩
    · clear sm nfa hfa hkf as mem
      rintro σ' H2 ⟨fs, fa, v2, v3, v4, v5, rfl, sm2, hfa, hkf, rnd, as⟩
      have okf : UpsOk (kp fs) := ok.tc rnd.tc
      -- len([pair for pair in found if pair[0] == pair[1]]) > 0
      refine ⟨_, rfl, fa, rfl, ⟨_, SqL.of hfa⟩, fun D nD => ?_⟩
      refine lc_list (K := K) (a := fa) (xs := kv fs) (fun n H' => Same H2 H' ∧ H' D = some (.lst [])) ?_ ?_ ?_ ?_
      · exact ⟨same_new nD, upd_same⟩
      · rintro n H4 _ ⟨sm4, _⟩
        exact SqL.of (sm4 _ _ hfa)
      · rintro n y H4 hn ⟨sm4, hD4⟩
        obtain ⟨⟨pb, y1, y2⟩, gn, rfl⟩ := get_kv hn
        have mq := (hkf.same sm4) _ (List.mem_of_getElem? gn)
        refine ⟨rfl, _, rfl, _, _, _, _, rfl, rfl, mq, rfl, _, rfl, _, _, _, _, rfl, rfl, mq, rfl, rfl, _, rfl, ?_⟩
        refine ite2 (fun c => ?_) (fun _ => ⟨sm4, hD4⟩)
        exact absurd (V.int.inj (of_decide_eq_true c)) (okf.ne _ (List.mem_of_getElem? (kp_get gn)))
      · rintro H4 ⟨sm4, hD4⟩
        refine ⟨D, _, rfl, .inl (SqL.of hD4), _, _, rfl, rfl, _, rfl, ?_⟩
        refine iteF ?_
        -- return tuple(found)
        refine ⟨_, rfl, fa, _, rfl, .inl ⟨SqL.of (sm4 _ _ hfa), fun z nz => ?_⟩⟩
        obtain ⟨r, u⟩ := ok.up
        exact q z fs _ (same_upd (sm2.trans sm4) ((sm2.trans sm4).free nz)) ((sm2.trans sm4).free nz) upd_same ((hkf.same sm4).same (same_new nz)) ⟨as, rnd.done u (by decide)⟩
end
end Ev

namespace Ev
open PySem L2
/-! ### a comprehension of two clauses -/
section
variable {K : PySem.W.Frag} {g g1 : TG} {tt tt1 : TT} {te : TE} {vs vs1 : List Nat} {σ σ2 : St} {H0 H1 : Hp} {D : Addr} {Qd : Hp → Prop}
/-- the inner clause's loop, by its iterator -/
def InL (J1 : It) (g1 : TG) (tt1 : TT) (te : TE) (vs1 : List Nat) (σ2 : St) (D : Addr) (H0 : Hp) (Nx : Hp → Prop) : Prop :=
  ∃ W1 : Nat → Nat → Hp → Prop, (∃ m, W1 0 m H0) ∧ ∀ j k H, W1 j k H →
    (J1.stop j H ∧ Nx H) ∨ (J1.go j H ∧ ∃ Nx1 : Hp → Prop, (∀ H', Nx1 H' → ∃ k', k' < k ∧ W1 (j + 1) k' H') ∧ ∀ x H', J1.yld j H x H' → g1 x (wipe σ2 vs1) H' fun σ3 H5 => wipe σ3 vs1 = wipe σ2 vs1 ∧ tt1 σ3 H5 fun b H6 =>
      if b = true then te σ3 H6 fun y H7 => ∃ acc, H7 D = some (.lst acc) ∧ acc.length < sizeLine ∧ Nx1 (upd H7 D (.lst (acc ++ [y]))) else Nx1 H6)
theorem in_tup {a : Addr} {xs : List V} (Pv : Nat → Hp → Prop) (h0 : Pv 0 H0) (hl : ∀ i H, Pv i H → SqT K H a xs)
    (hs : ∀ i x H, xs[i]? = some x → Pv i H → g1 x (wipe σ2 vs1) H fun σ3 H2 => wipe σ3 vs1 = wipe σ2 vs1 ∧ tt1 σ3 H2 fun b H3 =>
      if b = true then te σ3 H3 fun y H4 => ∃ acc, H4 D = some (.lst acc) ∧ acc.length < sizeLine ∧ Pv (i + 1) (upd H4 D (.lst (acc ++ [y]))) else Pv (i + 1) H3) (hd : ∀ H, Pv xs.length H → Qd H) :
    InL (Itt K a) g1 tt1 te vs1 σ2 D H0 Qd := by
  refine ⟨fun j k H => k + j = xs.length ∧ Pv j H, ⟨xs.length, rfl, h0⟩, fun j k H ⟨e, p⟩ => ?_⟩
  have st := hl j H p
  rcases Nat.lt_or_ge j xs.length with lt | ge
  · refine .inr ⟨⟨xs, xs[j], st, List.getElem?_eq_getElem lt⟩, Pv (j + 1), fun H' p' => ⟨k - 1, by omega, by omega, p'⟩, fun x H' y => ?_⟩
    obtain ⟨rfl, f⟩ := y
    exact hs j x _ (f xs st) p
  · refine .inl ⟨⟨xs, st, ge⟩, hd H ?_⟩
    have e2 : j = xs.length := by omega
    exact e2 ▸ p
theorem in_list {a : Addr} {xs : List V} (Pv : Nat → Hp → Prop) (h0 : Pv 0 H0) (hl : ∀ i H, Pv i H → SqL K H a xs)
    (hs : ∀ i x H, xs[i]? = some x → Pv i H → g1 x (wipe σ2 vs1) H fun σ3 H2 => wipe σ3 vs1 = wipe σ2 vs1 ∧ tt1 σ3 H2 fun b H3 =>
      if b = true then te σ3 H3 fun y H4 => ∃ acc, H4 D = some (.lst acc) ∧ acc.length < sizeLine ∧ Pv (i + 1) (upd H4 D (.lst (acc ++ [y]))) else Pv (i + 1) H3) (hd : ∀ H, Pv xs.length H → Qd H) :
    InL (Itl K a) g1 tt1 te vs1 σ2 D H0 Qd := by
  refine ⟨fun j k H => k + j = xs.length ∧ Pv j H, ⟨xs.length, rfl, h0⟩, fun j k H ⟨e, p⟩ => ?_⟩
  have st := hl j H p
  rcases Nat.lt_or_ge j xs.length with lt | ge
  · refine .inr ⟨⟨xs, xs[j], st, List.getElem?_eq_getElem lt⟩, Pv (j + 1), fun H' p' => ⟨k - 1, by omega, by omega, p'⟩, fun x H' y => ?_⟩
    obtain ⟨rfl, f⟩ := y
    exact hs j x _ (f xs st) p
  · refine .inl ⟨⟨xs, st, ge⟩, hd H ?_⟩
    have e2 : j = xs.length := by omega
    exact e2 ▸ p
theorem in_range {lo : Int} {n : Nat} (Pv : Nat → Hp → Prop) (h0 : Pv 0 H0)
    (hs : ∀ i H, i < n → Pv i H → g1 (.int (lo + i)) (wipe σ2 vs1) H fun σ3 H2 => wipe σ3 vs1 = wipe σ2 vs1 ∧ tt1 σ3 H2 fun b H3 =>
      if b = true then te σ3 H3 fun y H4 => ∃ acc, H4 D = some (.lst acc) ∧ acc.length < sizeLine ∧ Pv (i + 1) (upd H4 D (.lst (acc ++ [y]))) else Pv (i + 1) H3) (hd : ∀ H, Pv n H → Qd H) :
    InL (Itr lo n) g1 tt1 te vs1 σ2 D H0 Qd := by
  refine ⟨fun j k H => k + j = n ∧ Pv j H, ⟨n, rfl, h0⟩, fun j k H ⟨e, p⟩ => ?_⟩
  rcases Nat.lt_or_ge j n with lt | ge
  · refine .inr ⟨lt, Pv (j + 1), fun H' p' => ⟨k - 1, by omega, by omega, p'⟩, fun x H' y => ?_⟩
    obtain ⟨rfl, rfl⟩ := y
    exact hs j _ lt p
  · refine .inl ⟨ge, hd H ?_⟩
    have e2 : j = n := by omega
    exact e2 ▸ p
/-- the outer clause's loop -/
def OutL (J : It) (g : TG) (tt : TT) (wi1 : TI) (g1 : TG) (tt1 : TT) (te : TE) (vs vs1 : List Nat) (σ : St) (D : Addr) (H0 : Hp) (Qd : Hp → Prop) : Prop :=
  ∃ W : Nat → Nat → Hp → Prop, (∃ m, W 0 m H0) ∧ ∀ i m H, W i m H →
    (J.stop i H ∧ Qd H) ∨ (J.go i H ∧ ∃ Nx : Hp → Prop, (∀ H', Nx H' → ∃ m', m' < m ∧ W (i + 1) m' H') ∧ ∀ x H', J.yld i H x H' → g x (wipe σ vs) H' fun σ2 H2 => wipe σ2 vs = wipe σ vs ∧ tt σ2 H2 fun b H3 =>
      if b = true then wi1 σ2 H3 fun J1 H4 => InL J1 g1 tt1 te vs1 σ2 D H4 Nx else Nx H3)
theorem out_range {lo : Int} {n : Nat} {wi1 : TI} (Pv : Nat → Hp → Prop) (h0 : Pv 0 H0)
    (hs : ∀ i H, i < n → Pv i H → g (.int (lo + i)) (wipe σ vs) H fun σ2 H2 => wipe σ2 vs = wipe σ vs ∧ tt σ2 H2 fun b H3 =>
      if b = true then wi1 σ2 H3 fun J1 H4 => InL J1 g1 tt1 te vs1 σ2 D H4 (Pv (i + 1)) else Pv (i + 1) H3) (hd : ∀ H, Pv n H → Qd H) :
    OutL (Itr lo n) g tt wi1 g1 tt1 te vs vs1 σ D H0 Qd := by
  refine ⟨fun j k H => k + j = n ∧ Pv j H, ⟨n, rfl, h0⟩, fun j k H ⟨e, p⟩ => ?_⟩
  rcases Nat.lt_or_ge j n with lt | ge
  · refine .inr ⟨lt, Pv (j + 1), fun H' p' => ⟨k - 1, by omega, by omega, p'⟩, fun x H' y => ?_⟩
    obtain ⟨rfl, rfl⟩ := y
    exact hs j _ lt p
  · refine .inl ⟨ge, hd H ?_⟩
    have e2 : j = n := by omega
    exact e2 ▸ p
end
/-! ### a value's truth, the bits of a number -/
def tTru (K : PySem.W.Frag) (t : TE) : TT := fun σ H Q => t σ H fun x H' => ∃ k, TruV K x H' k ∧ Q k H'
def rOdd : R2 := fun x y H Q => ∃ n : Nat, x = .int (n : Int) ∧ y = .int 1 ∧ Q (.int ((n % 2 : Nat) : Int)) H
def rShr : R2 := fun x y H Q => ∃ n k : Nat, x = .int (n : Int) ∧ y = .int (k : Int) ∧ Q (.int ((n / 2 ^ k : Nat) : Int)) H
theorem shr_nat (n k : Nat) : ((n : Int) / 2 ^ k) = ((n / 2 ^ k : Nat) : Int) := by
  rw [Int.natCast_ediv]
  congr 1
def rAddN : R2 := fun x y H Q => ∃ n m : Nat, x = .int (n : Int) ∧ y = .int (m : Int) ∧ Q (.int ((n + m : Nat) : Int)) H
def rLenS (K : PySem.W.Frag) : List V → Hp → VK → Prop := fun xs H Q => ∃ p ys, xs = [.ref p] ∧ (SqL K H p ys ∨ SqT K H p ys) ∧ Q (.int ys.length) H
section
variable {X : Cx}
theorem pt_tru {e : Expr} {t : TE} (h : PE X e t) (he : ∀ whole, isTrue e X.env whole = (do let v ← whole; standAt e.pos; holding [v] (truthy v)) := by intro _; rfl) : PT X e (tTru X.K t) := pt_truth h he
theorem op_oddN : OpR X (binaryOp .BitAnd) rOdd := op_odd
theorem op_shrNN : OpR X (binaryOp .RShift) rShr := by
  intro pins s σ H x y v u Q I rx ry h
  obtain ⟨n, k, rfl, rfl, q⟩ := h
  refine op_shrN pins s σ H _ _ v u Q I rx ry ⟨n, k, rfl, rfl, ?_⟩
  rw [shr_nat]
  exact q
end
/-! ### comparisons of pairs -/
theorem lex_code {p q : Pr} (h1 : 0 ≤ p.2 ∧ p.2 < 64) (h2 : 0 ≤ q.2 ∧ q.2 < 64) : HT.lexLt [p.1, p.2] [q.1, q.2] = decide (code p < code q) := by
  rw [HT.lexLt_cons]
  by_cases e : p.1 = q.1
  · rw [if_pos e, HT.lexLt_cons]
    by_cases e2 : p.2 = q.2
    · rw [if_pos e2, HT.lexLt_nil_nil]
      symm
      apply decide_eq_false
      unfold code
      omega
    · rw [if_neg e2]
      by_cases l : p.2 < q.2
      · rw [decide_eq_true l, decide_eq_true]
        unfold code
        omega
      · rw [decide_eq_false l, decide_eq_false]
        unfold code
        omega
  · rw [if_neg e]
    by_cases l : p.1 < q.1
    · rw [decide_eq_true l, decide_eq_true]
      unfold code
      omega
    · rw [decide_eq_false l, decide_eq_false]
      unfold code
      omega
theorem asc_next {ps : List Pr} (h : asc ps) {i : Nat} {p q : Pr} (hp : ps[i]? = some p) (hq : ps[i + 1]? = some q) : code p < code q := by
  obtain ⟨h1, rfl⟩ := List.getElem?_eq_some_iff.mp hp
  obtain ⟨h2, rfl⟩ := List.getElem?_eq_some_iff.mp hq
  exact List.pairwise_iff_getElem.mp h i (i + 1) h1 h2 (Nat.lt_succ_self i)
end Ev

namespace Ev
/-! ### rows of bits -/
def bitsOf (m n : Nat) : List Nat := (List.range m).filter fun k => n.testBit k
theorem bitsOf_yes {n k : Nat} (h : n.testBit k = true) : bitsOf (k + 1) n = bitsOf k n ++ [k] := by
  unfold bitsOf
  rw [List.range_succ, List.filter_append]
  simp [h]
theorem bitsOf_no {n k : Nat} (h : n.testBit k = false) : bitsOf (k + 1) n = bitsOf k n := by
  unfold bitsOf
  rw [List.range_succ, List.filter_append]
  simp [h]
theorem bitsOf_length (m n : Nat) : (bitsOf m n).length ≤ m := by
  unfold bitsOf
  exact Nat.le_trans (List.length_filter_le _ _) (by rw [List.length_range]; exact Nat.le_refl _)
/-- the bit c of the row a -/
def Mx (bs : List Nat) (a c : Int) : Prop := 0 ≤ a ∧ 0 ≤ c ∧ (bs.getD a.toNat 0).testBit c.toNat = true
theorem getD_set (bs : List Nat) (i j v : Nat) (h : i < bs.length) : (bs.set i v).getD j 0 = if j = i then v else bs.getD j 0 := by
  rw [List.getD_eq_getElem?_getD, List.getD_eq_getElem?_getD, List.getElem?_set]
  by_cases e : i = j
  · subst e
    simp [h]
  · rw [if_neg e, if_neg (fun q => e q.symm)]
theorem Mx_zero (m : Nat) (a c : Int) : ¬ Mx (List.replicate m 0) a c := fun ⟨_, _, h⟩ => by
  rw [List.getD_eq_getElem?_getD, List.getElem?_replicate] at h
  split at h <;> simp at h
theorem Mx_set {bs : List Nat} {i : Nat} {v : Nat} (h : i < bs.length) (a c : Int) : Mx (bs.set i v) a c ↔ if a = (i : Int) then 0 ≤ c ∧ v.testBit c.toNat = true else Mx bs a c := by
  unfold Mx
  rw [getD_set bs i _ v h]
  by_cases e : a = (i : Int)
  · rw [if_pos e, if_pos (by omega)]
    constructor
    · exact fun ⟨_, h1, h2⟩ => ⟨h1, h2⟩
    · exact fun ⟨h1, h2⟩ => ⟨by omega, h1, h2⟩
  · rw [if_neg e]
    by_cases ha : 0 ≤ a
    · rw [if_neg (by omega)]
    · constructor <;> exact fun ⟨h1, _⟩ => absurd h1 ha
theorem Mx_put {bs : List Nat} {i k : Nat} (h : i < bs.length) (a c : Int) : Mx (bs.set i (bs.getD i 0 ||| 2 ^ k)) a c ↔ Mx bs a c ∨ (a = (i : Int) ∧ c = (k : Int)) := by
  rw [Mx_set h]
  by_cases e : a = (i : Int)
  · rw [if_pos e, Nat.testBit_or, Nat.testBit_two_pow, Bool.or_eq_true, decide_eq_true_eq]
    unfold Mx
    subst e
    rw [Int.toNat_natCast]
    constructor
    · rintro ⟨h1, h2 | h2⟩
      · exact .inl ⟨by omega, h1, h2⟩
      · exact .inr ⟨rfl, by omega⟩
    · rintro (⟨_, h1, h2⟩ | ⟨_, h2⟩)
      · exact ⟨h1, .inl h2⟩
      · exact ⟨by omega, .inr (by omega)⟩
  · rw [if_neg e]
    constructor
    · exact .inl
    · rintro (h | ⟨h, _⟩)
      · exact h
      · exact absurd h e
theorem Mx_join {bs : List Nat} {i k : Nat} (h : i < bs.length) (a c : Int) : Mx (bs.set i (bs.getD i 0 ||| bs.getD k 0)) a c ↔ Mx bs a c ∨ (a = (i : Int) ∧ Mx bs k c) := by
  rw [Mx_set h]
  by_cases e : a = (i : Int)
  · rw [if_pos e, Nat.testBit_or, Bool.or_eq_true]
    unfold Mx
    subst e
    rw [Int.toNat_natCast, Int.toNat_natCast]
    constructor
    · rintro ⟨h1, h2 | h2⟩
      · exact .inl ⟨by omega, h1, h2⟩
      · exact .inr ⟨rfl, by omega, h1, h2⟩
    · rintro (⟨_, h1, h2⟩ | ⟨_, _, h1, h2⟩)
      · exact ⟨h1, .inl h2⟩
      · exact ⟨h1, .inr h2⟩
  · rw [if_neg e]
    constructor
    · exact .inl
    · rintro (h | ⟨h, _⟩)
      · exact h
      · exact absurd h e
theorem Mx_lt {bs : List Nat} {a c : Int} (h : Mx bs a c) : a < bs.length := by
  obtain ⟨h0, _, h⟩ := h
  rcases Int.lt_or_le a bs.length with l | l
  · exact l
  · rw [List.getD_eq_getElem?_getD, List.getElem?_eq_none (by omega)] at h
    simp at h
/-! ### going through all between -/
/-- within the turn of k, the rows below i done -/
def Mid (bs0 bs : List Nat) (k i : Nat) : Prop := bs.length = bs0.length ∧ ∀ a c, Mx bs a c ↔ Mx bs0 a c ∨ (a < i ∧ Mx bs0 a k ∧ Mx bs0 k c)
theorem Mid.zero (bs : List Nat) (k : Nat) : Mid bs bs k 0 := ⟨rfl, fun a c => ⟨.inl, fun h => h.elim id fun ⟨h, m, _⟩ => by
  have := m.1
  omega⟩⟩
theorem Mid.yes {bs0 bs : List Nat} {k i : Nat} (h : Mid bs0 bs k i) (hi : i < bs0.length) (b : (bs.getD i 0).testBit k = true) : Mid bs0 (bs.set i (bs.getD i 0 ||| bs.getD k 0)) k (i + 1) := by
  refine ⟨by rw [List.length_set, h.1], fun a c => ?_⟩
  have mk : ∀ c, Mx bs k c ↔ Mx bs0 k c := fun c => by
    rw [h.2]
    constructor
    · rintro (x | ⟨_, _, x⟩) <;> exact x
    · exact .inl
  have mik : Mx bs0 i k := by
    have x : Mx bs i k := ⟨by omega, by omega, by rw [Int.toNat_natCast, Int.toNat_natCast]; exact b⟩
    rcases (h.2 _ _).mp x with x | ⟨_, x, _⟩ <;> exact x
  rw [Mx_join (by rw [h.1]; exact hi), mk, h.2]
  constructor
  · rintro ((x | ⟨l, x, y⟩) | ⟨rfl, y⟩)
    · exact .inl x
    · exact .inr ⟨by omega, x, y⟩
    · exact .inr ⟨by omega, mik, y⟩
  · rintro (x | ⟨l, x, y⟩)
    · exact .inl (.inl x)
    · by_cases e : a = (i : Int)
      · exact .inr ⟨e, y⟩
      · exact .inl (.inr ⟨by omega, x, y⟩)
theorem Mid.no {bs0 bs : List Nat} {k i : Nat} (h : Mid bs0 bs k i) (b : (bs.getD i 0).testBit k = false) : Mid bs0 bs k (i + 1) := by
  refine ⟨h.1, fun a c => ?_⟩
  rw [h.2]
  constructor
  · rintro (x | ⟨l, x, y⟩)
    · exact .inl x
    · exact .inr ⟨by omega, x, y⟩
  · rintro (x | ⟨l, x, y⟩)
    · exact .inl x
    · by_cases e : a = (i : Int)
      · subst e
        have z : Mx bs i k := (h.2 _ _).mpr (.inl x)
        obtain ⟨_, _, z⟩ := z
        rw [Int.toNat_natCast, Int.toNat_natCast, b] at z
        cases z
      · exact .inr ⟨by omega, x, y⟩
/-- all names below k gone through -/
structure War (m : Nat) (ps : List Pr) (k : Nat) (bs : List Nat) : Prop where
  len : bs.length = m
  snd : ∀ a c, Mx bs a c → Tc ps a c
  has : ∀ a c, (a, c) ∈ ps → Mx bs a c
  cls : ∀ a j c : Int, j < (k : Int) → Mx bs a j → Mx bs j c → Mx bs a c
theorem War.zero {m : Nat} {ps : List Pr} {bs : List Nat} (hl : bs.length = m) (h : ∀ a c, Mx bs a c ↔ (a, c) ∈ ps) : War m ps 0 bs :=
  ⟨hl, fun a c x => .one ((h a c).mp x), fun a c x => (h a c).mpr x, fun a j c l x y => by
    have := x.2.1
    omega⟩
theorem War.next {m : Nat} {ps : List Pr} {bs0 bs : List Nat} {k : Nat} (w : War m ps k bs0) (h : Mid bs0 bs k m) : War m ps (k + 1) bs := by
  have all : ∀ a c, Mx bs a c ↔ Mx bs0 a c ∨ (Mx bs0 a k ∧ Mx bs0 k c) := fun a c => by
    rw [h.2]
    constructor
    · rintro (x | ⟨_, x, y⟩)
      · exact .inl x
      · exact .inr ⟨x, y⟩
    · rintro (x | ⟨x, y⟩)
      · exact .inl x
      · have := Mx_lt x
        rw [w.len] at this
        exact .inr ⟨this, x, y⟩
  refine ⟨h.1.trans w.len, fun a c x => ?_, fun a c x => (all a c).mpr (.inl (w.has a c x)), fun a j c l x y => ?_⟩
  · rcases (all a c).mp x with x | ⟨x, y⟩
    · exact w.snd a c x
    · exact (w.snd _ _ x).trans (w.snd _ _ y)
  · rw [all] at x y ⊢
    by_cases e : j = (k : Int)
    · subst e
      have x : Mx bs0 a k := by rcases x with x | ⟨x, _⟩ <;> exact x
      have y : Mx bs0 k c := by rcases y with y | ⟨_, y⟩ <;> exact y
      exact .inr ⟨x, y⟩
    · have l : j < k := by omega
      rcases x with x | ⟨x, x'⟩
      · rcases y with y | ⟨y, y'⟩
        · exact .inl (w.cls a j c l x y)
        · exact .inr ⟨w.cls a j k l x y, y'⟩
      · rcases y with y | ⟨y, y'⟩
        · exact .inr ⟨x, w.cls k j c l x' y⟩
        · exact .inr ⟨x, y'⟩
theorem War.done {m : Nat} {ps : List Pr} {bs : List Nat} (w : War m ps m bs) (hin : In m ps) (a c : Int) : Mx bs a c ↔ Tc ps a c := by
  refine ⟨w.snd a c, fun t => ?_⟩
  exact t.ind (R := fun a c => Mx bs a c) w.has fun a j c x y => w.cls a j c (by
    have := Mx_lt y
    rw [w.len] at this
    exact this) x y
/-! ### the pairs of all rows -/
def rowP (m : Nat) (bs : List Nat) (a : Nat) : List Pr := (bitsOf m (bs.getD a 0)).map fun c : Nat => ((a : Int), (c : Int))
def allP (m : Nat) (bs : List Nat) (i : Nat) : List Pr := (List.range i).flatMap (rowP m bs)
theorem allP_succ (m : Nat) (bs : List Nat) (i : Nat) : allP m bs (i + 1) = allP m bs i ++ rowP m bs i := by
  unfold allP
  rw [List.range_succ, List.flatMap_append, List.flatMap_singleton]
theorem rowP_length (m : Nat) (bs : List Nat) (a : Nat) : (rowP m bs a).length ≤ m := by
  unfold rowP
  rw [List.length_map]
  exact bitsOf_length _ _
theorem allP_length (m : Nat) (bs : List Nat) : ∀ i, (allP m bs i).length ≤ i * m
  | 0 => Nat.zero_le _
  | i + 1 => by
    rw [allP_succ, List.length_append, Nat.succ_mul]
    have := allP_length m bs i
    have := rowP_length m bs i
    omega
theorem rowP_get {m : Nat} {bs : List Nat} {a j : Nat} {c : Nat} (h : (bitsOf m (bs.getD a 0))[j]? = some c) : (rowP m bs a)[j]? = some ((a : Int), (c : Int)) := by
  unfold rowP
  rw [List.getElem?_map, h]
  rfl
theorem mem_rowP {m : Nat} {bs : List Nat} {i : Nat} {a c : Int} : (a, c) ∈ rowP m bs i ↔ a = i ∧ c < m ∧ Mx bs a c := by
  unfold rowP bitsOf Mx
  rw [List.mem_map]
  constructor
  · rintro ⟨k, h, e⟩
    rw [List.mem_filter, List.mem_range] at h
    cases e
    rw [Int.toNat_natCast, Int.toNat_natCast]
    exact ⟨rfl, by omega, by omega, by omega, h.2⟩
  · rintro ⟨rfl, h, h1, h2, h3⟩
    refine ⟨c.toNat, ?_, ?_⟩
    · rw [List.mem_filter, List.mem_range]
      rw [Int.toNat_natCast] at h3
      exact ⟨by omega, h3⟩
    · rw [Int.toNat_of_nonneg h2]
theorem mem_allP {m : Nat} {bs : List Nat} {i : Nat} {a c : Int} : (a, c) ∈ allP m bs i ↔ a < i ∧ c < m ∧ Mx bs a c := by
  unfold allP
  rw [List.mem_flatMap]
  constructor
  · rintro ⟨k, h, e⟩
    rw [List.mem_range] at h
    obtain ⟨rfl, e⟩ := mem_rowP.mp e
    exact ⟨by omega, e⟩
  · rintro ⟨h, e⟩
    have h0 := e.2.1
    refine ⟨a.toNat, List.mem_range.mpr (by omega), mem_rowP.mpr ⟨(Int.toNat_of_nonneg h0).symm, e⟩⟩
theorem rowP_asc (m : Nat) (hm : m ≤ 64) (bs : List Nat) (i : Nat) : asc (rowP m bs i) := by
  unfold rowP
  refine List.pairwise_map.mpr ?_
  unfold bitsOf
  refine (List.Pairwise.filter _ List.pairwise_lt_range).imp (fun {a b} h => ?_)
  unfold code
  simp only
  omega
theorem allP_asc (m : Nat) (hm : m ≤ 64) (bs : List Nat) : ∀ i, asc (allP m bs i)
  | 0 => .nil
  | i + 1 => by
    rw [allP_succ]
    refine List.pairwise_append.mpr ⟨allP_asc m hm bs i, rowP_asc m hm bs i, fun ⟨a, c⟩ h ⟨b, d⟩ k => ?_⟩
    obtain ⟨h1, h2, h3⟩ := mem_allP.mp h
    obtain ⟨k1, k2, k3⟩ := mem_rowP.mp k
    have := h3.2.1
    have := k3.2.1
    unfold code
    simp only
    omega
theorem War.cl {m : Nat} {ps : List Pr} {bs : List Nat} (w : War m ps m bs) (hm : m ≤ 64) (hin : In m ps) : Cl ps (allP m bs m) :=
  ⟨allP_asc m hm bs m, fun a c => by
    rw [mem_allP, w.done hin]
    constructor
    · exact fun h => h.2.2
    · exact fun h => ⟨(h.in hin).2.1, (h.in hin).2.2.2, h⟩⟩
end Ev

namespace Ev
open PySem L2
open C8 (pss_cut tCut)
theorem tyT {K : PySem.W.Frag} {H : Hp} {a : Addr} {xs : List V} (h : SqT K H a xs) : TyX K H (.ref a) (.type "tuple") := by
  rcases h with (h | ⟨o, h⟩) | ⟨o, its, n, h, c, _⟩
  · exact .base (.tup h)
  · exact .fTuple h
  · exact .kTuple h c
section
variable {P : Program} {w : World} {K : PySem.W.Frag} {mg : Str → Option Value} {base : Heap}
/-! ### is_integer, is_name -/
def sp_isInt (K : PySem.W.Frag) : Sp := fun vs H Q _ => ∃ v t b1 b2, vs = [v] ∧ TyX K H v t ∧ PySem.W.kitOne K t (.type "int") = some b1 ∧ PySem.W.kitOne K t (.type "bool") = some b2 ∧ Q (.bl (b1 && !b2)) H
abbrev s_isInt : Stmt := topS 2
theorem sc_isInt : FnScope ["thing"] ["thing"] (defScope s_isInt) := ⟨rfl, rfl, rfl, by decide +kernel, rfl, by decide +kernel, by decide +kernel⟩
theorem ok_isInt {f : Addr} {fd : FuncData} (F : Fun K "is_integer" "is_integer" s_isInt f fd) (B : Bl mg) : FnOk P w K mg base CX0 1 f fd ["thing"] (sp_isInt K) := by
  refine F.ok sc_isInt (fun vs H Q E h => ?_) (fun cdv A outer s H vs Q E hr h => ?_)
  · obtain ⟨v, t, b1, b2, rfl, _⟩ := h
    rfl
  · obtain ⟨v, t, b1, b2, rfl, ty, k1, k2, q⟩ := h
    refine ⟨_, pss_one (ps_ret (pe_and (pe_callB call_isi (by rfl) B.isinstance (by decide +kernel) (pa_cons (pv 0) (pa_cons (pe_bltn (v := .ty "int") (by rfl) B.int (by decide +kernel) rfl) pa_nil)))
      (pe_one (pe_not (pe_callB call_isi (by rfl) B.isinstance (by decide +kernel) (pa_cons (pv 0) (pa_cons (pe_bltn (v := .ty "bool") (by rfl) B.bool (by decide +kernel) rfl) pa_nil))))))), ?_⟩
    refine ⟨_, rfl, _, _, _, _, _, rfl, .ty _, ty, k1, _, rfl, ?_⟩
    cases b1 with
    | false => exact iteF q
    | true => exact iteT ⟨_, rfl, _, _, _, _, _, rfl, .ty _, ty, k2, _, rfl, q⟩
def sp_isName (K : PySem.W.Frag) : Sp := fun vs H Q _ => ∃ (m i : Int), vs = [.int m, .int i] ∧ Q (.bl (decide (0 ≤ i) && decide (i < m))) H
abbrev s_isName : Stmt := topS 3
theorem sc_isName : FnScope ["many", "thing"] ["many", "thing"] (defScope s_isName) := ⟨rfl, rfl, rfl, by decide +kernel, rfl, by decide +kernel, by decide +kernel⟩
theorem int_kit {K : PySem.W.Frag} : PySem.W.kitOne K (.type "int") (.type "int") = some true ∧ PySem.W.kitOne K (.type "int") (.type "bool") = some false := ⟨kit_ty (by decide +kernel), kit_ty (by decide +kernel)⟩
theorem ok_isName {f f1 : Addr} {fd fd1 : FuncData} (F : Fun K "is_name" "is_name" s_isName f fd) (D1 : Df K mg "is_integer" s_isInt ["thing"] f1 fd1) (B : Bl mg) : FnOk P w K mg base CX0 2 f fd ["many", "thing"] (sp_isName K) := by
  have G1 : FnOk P w K mg base CX0 1 f1 fd1 ["thing"] (sp_isInt K) := ok_isInt D1.F B
  refine F.ok sc_isName (fun vs H Q E h => ?_) (fun cdv A outer s H vs Q E hr h => ?_)
  · obtain ⟨m, i, rfl, _⟩ := h
    rfl
  · obtain ⟨m, i, rfl, q⟩ := h
    refine ⟨_, pss_one (ps_ret (pe_and (pe_call G1 hr rfl D1.g D1.F.kp D1.b .nil pass0 (pa_cons (pv 1) pa_nil)) (pe_one (pe_chain op_le op_lt (pe_int) (pv 1) (pv 0))))), ?_⟩
    refine ⟨_, rfl, _, _, _, _, rfl, .base (.int i), int_kit.1, int_kit.2, _, rfl, iteT ?_⟩
    refine ⟨_, rfl, _, _, rfl, rfl, _, rfl, ?_⟩
    by_cases h0 : (0 : Int) ≤ i
    · rw [decide_eq_true h0] at q ⊢
      refine iteT ⟨_, rfl, _, _, rfl, rfl, ?_⟩
      exact q
    · rw [decide_eq_false h0] at q ⊢
      exact iteF q
/-! ### is_ascending, of pairs -/
def sp_ascP (K : PySem.W.Frag) : Sp := fun vs H Q _ => ∃ (a : Addr) (ks : Kp), vs = [.ref a] ∧ SqT K H a (kv ks) ∧ KsAt K H ks ∧ In 64 (kp ks) ∧ asc (kp ks) ∧ ks.length ≤ 64 ∧ ∀ H', Same H H' → Q (.bl true) H'
abbrev s_isAsc : Stmt := topS 4
abbrev n_isAsc : List Str := ["items", "at"]
theorem sc_isAsc : FnScope n_isAsc ["items"] (defScope s_isAsc) := ⟨rfl, rfl, rfl, by decide +kernel, rfl, by decide +kernel, by decide +kernel⟩
theorem all_true (n : Nat) : (List.replicate n true).all id = true := by
  rw [List.all_eq_true]
  intro x hx
  exact (List.eq_of_mem_replicate hx)
theorem rep_snoc (n : Nat) : (List.replicate (n + 1) true).map V.bl = (List.replicate n true).map V.bl ++ [V.bl true] := by
  rw [List.replicate_succ', List.map_append]
  rfl
theorem ok_ascP {f : Addr} {fd : FuncData} (F : Fun K "is_ascending" "is_ascending" s_isAsc f fd) (B : Bl mg) : FnOk P w K mg base CX0 1 f fd ["items"] (sp_ascP K) := by
  refine F.ok sc_isAsc (fun vs H Q E h => ?_) (fun cdv A outer s H vs Q E hr h => ?_)
  · obtain ⟨a, ks, rfl, _⟩ := h
    rfl
  · obtain ⟨a, ks, rfl, hT, hk, hin, as, hl, q⟩ := h
    refine ⟨_, pss_one (ps_ret (pe_callB (cr_all rfl) (by rfl) B.all (by decide +kernel) (pa_cons (pe_lc (own := [("at", 1)]) (te := tOp (rLtT K) (tOp (rIxT K) (tVar 0) (tVar 1)) (tOp (rIxT K) (tVar 0) (tOp (rI0 fun i j => .int (i + j)) (tVar 1) (tC (.int 1))))) (by rfl) sc_isAsc.nd (pi_range1 (by rfl) B.range (pa_cons (pe_op op_sub (pe_callB call_len_seq (by rfl) B.len (by decide +kernel) (pa_cons (pv 0) pa_nil)) (pe_int)) pa_nil)) (blkOk_by (N := n_isAsc) (sc := defScope s_isAsc) (by decide +kernel)) (fun _ _ _ _ _ => pg_name (i := 1) sc_isAsc.nd rfl (Or.inl rfl)) (fun _ _ _ _ _ => pts_nil)
      (fun _ _ _ _ _ => by exact pe_cmpR (op_ltT hr.units0) (pe_ix ix_tup (pv 0) (pv 1) (fun _ _ => rfl)) (pe_ix ix_tup (pv 0) (pe_op op_add (pv 1) (pe_int)) (fun _ _ => rfl)) (nomark _))) pa_nil))), ?_⟩
    refine ⟨_, rfl, _, _, rfl, .inr hT, _, _, rfl, rfl, _, rfl, ?_, ?_, fun D nD => ?_⟩
    · rw [kv_length]
      omega
    · rw [kv_length]
      omega
    refine lc_range (lo := 0) (n := ((kv ks).length - 1 : Int).toNat) (fun i H' => Same H H' ∧ H' D = some (.lst ((List.replicate i true).map V.bl))) ?_ ?_ ?_
    · exact ⟨same_new nD, upd_same⟩
    · rintro i H1 hi ⟨sm, hD⟩
      rw [kv_length] at hi
      have g1 : ks[i]? = some (ks[i]'(by omega)) := List.getElem?_eq_getElem _
      have g2 : ks[i + 1]? = some (ks[i + 1]'(by omega)) := List.getElem?_eq_getElem _
      generalize hx : ks[i]'(by omega) = x at g1
      generalize hy : ks[i + 1]'(by omega) = y at g2
      have hT1 := sqT_same hT sm
      have hx1 := (hk.same sm) _ (List.mem_of_getElem? g1)
      have hy1 := (hk.same sm) _ (List.mem_of_getElem? g2)
      have bx := hin _ (List.mem_of_getElem? (kp_get g1))
      have by_ := hin _ (List.mem_of_getElem? (kp_get g2))
      refine ⟨rfl, _, rfl, _, rfl, _, _, _, _, rfl, rfl, hT1, by rw [Int.zero_add]; exact atI_nat (kv_get g1), ?_⟩
      refine ⟨_, rfl, _, rfl, _, _, rfl, rfl, _, _, _, _, rfl, rfl, hT1, by rw [show (0 : Int) + i + 1 = ((i + 1 : Nat) : Int) by omega]; exact atI_nat (kv_get g2), ?_⟩
      refine ⟨x.1, y.1, [x.2.1, x.2.2], [y.2.1, y.2.2], rfl, rfl, hx1, hy1, _, hD, ?_, same_upd sm (by
        have := same_new (o := .lst []) nD
        exact nD), ?_⟩
      · rw [List.length_map, List.length_replicate]
        exact small64 (by omega)
      · rw [upd_same, lex_code ⟨bx.2.2.1, bx.2.2.2⟩ ⟨by_.2.2.1, by_.2.2.2⟩, decide_eq_true (asc_next as (kp_get g1) (kp_get g2)), rep_snoc]
    · rintro H1 ⟨sm, hD⟩
      exact ⟨D, _, rfl, SqL.of hD, by rw [all_true]; exact q _ sm⟩
/-! ### lot_of -/
def nv (l : List Nat) : List V := l.map fun k : Nat => V.int (k : Int)
def sp_lotOf (K : PySem.W.Frag) : Sp := fun vs H Q _ => ∃ (m n : Nat), vs = [.int m, .int n] ∧ m ≤ 8 ∧ ∀ H' z, Same H H' → H z = none → H' z = some (.tup (nv (bitsOf m n))) → Q (.ref z) H'
abbrev s_lotOf : Stmt := topS 6
abbrev n_lotOf : List Str := ["many", "bits", "name"]
theorem sc_lotOf : FnScope n_lotOf ["many", "bits"] (defScope s_lotOf) := ⟨rfl, rfl, rfl, by decide +kernel, rfl, by decide +kernel, by decide +kernel⟩
theorem bit_val (n k : Nat) : (((n / 2 ^ k % 2 : Nat) : Int) != 0) = n.testBit k := by
  rw [Nat.testBit_eq_decide_div_mod_eq]
  rcases Nat.mod_two_eq_zero_or_one (n / 2 ^ k) with e | e <;> rw [e] <;> rfl
theorem ok_lotOf {f : Addr} {fd : FuncData} (F : Fun K "lot_of" "lot_of" s_lotOf f fd) (B : Bl mg) : FnOk P w K mg base CX0 1 f fd ["many", "bits"] (sp_lotOf K) := by
  refine F.ok sc_lotOf (fun vs H Q E h => ?_) (fun cdv A outer s H vs Q E hr h => ?_)
  · obtain ⟨m, n, rfl, _⟩ := h
    rfl
  · obtain ⟨m, n, rfl, hm, q⟩ := h
    refine ⟨_, pss_one (ps_ret (pe_callTy call_tuple_of (by rfl) B.tuple (by decide +kernel) (pa_cons (pe_lc (own := [("name", 2)]) (by rfl) sc_lotOf.nd (pi_range1 (by rfl) B.range (pa_cons (pv 0) pa_nil)) (blkOk_by (N := n_lotOf) (sc := defScope s_lotOf) (by decide +kernel)) (fun _ _ _ _ _ => pg_name (i := 2) sc_lotOf.nd rfl (Or.inl rfl))
      (tt := tTru K (tOp rOdd (tOp rShr (tVar 1) (tVar 2)) (tC (.int 1))))
      (fun _ _ _ _ _ => by exact pts_one (pt_tru (pe_op op_oddN (pe_op op_shrNN (pv 1) (pv 2)) (pe_int)))) (fun _ _ _ _ _ => pv 2)) pa_nil))), ?_⟩
    refine ⟨_, rfl, m, rfl, by omega, by omega, fun D nD => ?_⟩
    refine lc_range (lo := 0) (n := (m : Int).toNat) (fun i H' => Same H H' ∧ H' D = some (.lst (nv (bitsOf i n)))) ?_ ?_ ?_
    · exact ⟨same_new nD, upd_same⟩
    · rintro i H1 hi ⟨sm, hD⟩
      refine ⟨rfl, _, rfl, _, rfl, n, i, rfl, by rw [Int.zero_add], n / 2 ^ i, rfl, rfl, _, rfl, ?_⟩
      rw [bit_val]
      cases e : n.testBit i with
      | false => exact iteF ⟨sm, by rw [bitsOf_no e]; exact hD⟩
      | true =>
        refine iteT ⟨_, rfl, _, hD, ?_, same_upd sm nD, ?_⟩
        · show ((bitsOf i n).map _).length < sizeLine
          rw [List.length_map]
          have := bitsOf_length i n
          have : i < m := hi
          exact small64 (by omega)
        · rw [upd_same, bitsOf_yes e, Int.zero_add]
          show _ = some (HO.lst ((bitsOf i n ++ [i]).map _))
          rw [List.map_append]
          rfl
    · rintro H1 ⟨sm, hD⟩
      exact ⟨D, _, rfl, .inl ⟨SqL.of hD, fun z nz => q _ z (same_upd sm (sm.free nz)) (sm.free nz) upd_same⟩⟩
end
end Ev

namespace Ev
open PySem L2
open C8 (pss_cut tCut)
section
variable {P : Program} {w : World} {K : PySem.W.Frag} {mg : Str → Option Value} {base : Heap}
/-! ### _is_before, _are_befores, of right ones -/
def sp_isBef (K : PySem.W.Frag) : Sp := fun vs H Q _ => ∃ (m : Int) (a : Addr) (p : Pr), vs = [.int m, .ref a] ∧ SqT K H a [.int p.1, .int p.2] ∧ (0 ≤ p.1 ∧ p.1 < m ∧ 0 ≤ p.2 ∧ p.2 < m) ∧ p.1 ≠ p.2 ∧ Q (.bl true) H
abbrev s_isBef : Stmt := topS 23
theorem sc_isBef : FnScope ["many", "thing"] ["many", "thing"] (defScope s_isBef) := ⟨rfl, rfl, rfl, by decide +kernel, rfl, by decide +kernel, by decide +kernel⟩
theorem ok_isBef {f f1 f2 : Addr} {fd fd1 fd2 : FuncData} (F : Fun K "_is_before" "_is_before" s_isBef f fd) (D1 : Df K mg "is_integer" s_isInt ["thing"] f1 fd1) (D2 : Df K mg "is_name" s_isName ["many", "thing"] f2 fd2) (B : Bl mg) : FnOk P w K mg base CX0 3 f fd ["many", "thing"] (sp_isBef K) := by
  have G2 : FnOk P w K mg base CX0 2 f2 fd2 ["many", "thing"] (sp_isName K) := ok_isName D2.F D1 B
  refine F.ok sc_isBef (fun vs H Q E h => ?_) (fun cdv A outer s H vs Q E hr h => ?_)
  · obtain ⟨m, a, p, rfl, _⟩ := h
    rfl
  · obtain ⟨m, a, p, rfl, hT, ⟨a0, a1, b0, b1⟩, ne, q⟩ := h
    refine ⟨_, pss_cons (ps_if (PW.pt (pw_or (pt_not (pt_val (pe_callB call_isi (by rfl) B.isinstance (by decide +kernel) (pa_cons (pv 1) (pa_cons (pe_bltn (v := .ty "tuple") (by rfl) B.tuple (by decide +kernel) rfl) pa_nil))))) (pw_or1 (pt_cmpR op_ne (pe_callB call_len_seq (by rfl) B.len (by decide +kernel) (pa_cons (pv 1) pa_nil)) (pe_int) (nomark _)))))
        (pss_one (ps_ret (pe_bl)))
        (pss_nil))
      (pss_one (ps_ret (pe_and (pe_call G2 hr rfl D2.g D2.F.kp D2.b .nil pass0 (pa_cons (pv 0) (pa_cons (pe_ix ix_tup (pv 1) (pe_int) (fun _ _ => rfl)) pa_nil))) (pe_and (pe_call G2 hr rfl D2.g D2.F.kp D2.b .nil pass0 (pa_cons (pv 0) (pa_cons (pe_ix ix_tup (pv 1) (pe_int) (fun _ _ => rfl)) pa_nil))) (pe_one (pe_cmpR op_ne (pe_ix ix_tup (pv 1) (pe_int) (fun _ _ => rfl)) (pe_ix ix_tup (pv 1) (pe_int) (fun _ _ => rfl)) (nomark _))))))), ?_⟩
    refine ⟨_, rfl, _, _, _, _, _, rfl, .ty _, tyT hT, kit_ty (by decide +kernel), true, rfl, iteF ?_⟩
    refine ⟨_, rfl, _, _, rfl, .inr hT, rfl, _, rfl, iteF ?_⟩
    refine ⟨_, rfl, _, rfl, _, _, _, _, rfl, rfl, hT, rfl, _, _, rfl, _, rfl, ?_⟩
    rw [decide_eq_true a0, decide_eq_true a1]
    refine iteT ⟨_, rfl, _, rfl, _, _, _, _, rfl, rfl, hT, rfl, _, _, rfl, _, rfl, ?_⟩
    rw [decide_eq_true b0, decide_eq_true b1]
    refine iteT ⟨_, rfl, _, _, _, _, rfl, rfl, hT, rfl, _, rfl, _, _, _, _, rfl, rfl, hT, rfl, rfl, ?_⟩
    rw [decide_eq_false (fun e => ne (V.int.inj e))]
    exact q
/-- befores as they must be, at b -/
structure Bef (K : PySem.W.Frag) (H : Hp) (m : Int) (b : Addr) (ks : Kp) : Prop where
  tup : SqT K H b (kv ks)
  at_ : KsAt K H ks
  bd : In m (kp ks)
  ne : ∀ p ∈ kp ks, p.1 ≠ p.2
  asc : asc (kp ks)
theorem Bef.few {K : PySem.W.Frag} {H : Hp} {m : Int} {b : Addr} {ks : Kp} (h : Bef K H m b ks) (hm : m ≤ 8) : ks.length < 63 := by
  have := few8 (kp ks) (h.bd.mono hm) h.ne (asc_nodup h.asc)
  rwa [kp_length] at this
def sp_areBef (K : PySem.W.Frag) : Sp := fun vs H Q _ => ∃ (m : Int) (b : Addr) (ks : Kp), vs = [.int m, .ref b] ∧ Bef K H m b ks ∧ m ≤ 8 ∧ ∀ H', Same H H' → Q (.bl true) H'
abbrev s_areBef : Stmt := topS 24
abbrev n_areBef : List Str := ["many", "thing", "item"]
theorem sc_areBef : FnScope n_areBef ["many", "thing"] (defScope s_areBef) := ⟨rfl, rfl, rfl, by decide +kernel, rfl, by decide +kernel, by decide +kernel⟩
theorem ok_areBef {f f1 f2 f3 f4 : Addr} {fd fd1 fd2 fd3 fd4 : FuncData} (F : Fun K "_are_befores" "_are_befores" s_areBef f fd) (D1 : Df K mg "is_integer" s_isInt ["thing"] f1 fd1) (D2 : Df K mg "is_name" s_isName ["many", "thing"] f2 fd2)
    (D3 : Df K mg "is_ascending" s_isAsc ["items"] f3 fd3) (D4 : Df K mg "_is_before" s_isBef ["many", "thing"] f4 fd4) (B : Bl mg) : FnOk P w K mg base CX0 4 f fd ["many", "thing"] (sp_areBef K) := by
  have G3 : FnOk P w K mg base CX0 1 f3 fd3 ["items"] (sp_ascP K) := ok_ascP D3.F B
  have G4 : FnOk P w K mg base CX0 3 f4 fd4 ["many", "thing"] (sp_isBef K) := ok_isBef D4.F D1 D2 B
  refine F.ok sc_areBef (fun vs H Q E h => ?_) (fun cdv A outer s H vs Q E hr h => ?_)
  · obtain ⟨m, b, ks, rfl, _⟩ := h
    rfl
  · obtain ⟨m, b, ks, rfl, hB, hm, q⟩ := h
    have few := hB.few hm
    refine ⟨_, pss_cons (ps_if (pt_not (pt_val (pe_callB call_isi (by rfl) B.isinstance (by decide +kernel) (pa_cons (pv 1) (pa_cons (pe_bltn (v := .ty "tuple") (by rfl) B.tuple (by decide +kernel) rfl) pa_nil)))))
        (pss_one (ps_ret (pe_bl)))
        (pss_nil))
      (pss_one (ps_ret (pe_and (pe_callB (cr_all rfl) (by rfl) B.all (by decide +kernel) (pa_cons (pe_lc (own := [("item", 2)]) (by rfl) sc_areBef.nd (pi_tup (pv 1)) (blkOk_by (N := n_areBef) (sc := defScope s_areBef) (by decide +kernel)) (fun _ _ _ _ _ => pg_name (i := 2) sc_areBef.nd rfl (Or.inl rfl)) (fun _ _ _ _ _ => pts_nil) (fun _ _ _ _ _ => by exact pe_call G4 hr rfl D4.g D4.F.kp D4.b .nil pass0 (pa_cons (pv 0) (pa_cons (pv 2) pa_nil)))) pa_nil))
        (pe_one (pe_call G3 (hr.mono (by decide)) rfl D3.g D3.F.kp D3.b .nil pass0 (pa_cons (pv 1) pa_nil)))))), ?_⟩
    refine ⟨_, rfl, _, _, _, _, _, rfl, .ty _, tyT hB.tup, kit_ty (by decide +kernel), true, rfl, iteF ?_⟩
    refine ⟨_, rfl, b, rfl, ⟨_, hB.tup⟩, fun D nD => ?_⟩
    refine lc_tup (K := K) (a := b) (xs := kv ks) (fun i H' => Same H H' ∧ H' D = some (.lst ((List.replicate i true).map V.bl))) ?_ ?_ ?_ ?_
    · exact ⟨same_new nD, upd_same⟩
    · rintro i H1 _ ⟨sm, _⟩
      exact sqT_same hB.tup sm
    · rintro i x H1 hi ⟨sm, hD⟩
      obtain ⟨⟨pa, p⟩, gk, rfl⟩ := get_kv hi
      have lt : i < ks.length := (List.getElem?_eq_some_iff.mp gk).1
      have mp := List.mem_of_getElem? (kp_get gk)
      refine ⟨rfl, _, rfl, _, rfl, m, pa, p, rfl, (hB.at_.same sm) _ (List.mem_of_getElem? gk), hB.bd _ mp, hB.ne _ mp, _, hD, ?_, same_upd sm nD, ?_⟩
      · rw [List.length_map, List.length_replicate]
        exact small64 (by omega)
      · rw [upd_same, rep_snoc]
    · rintro H1 ⟨sm, hD⟩
      refine ⟨D, _, rfl, SqL.of hD, ?_⟩
      rw [all_true]
      refine ⟨true, rfl, iteT ?_⟩
      exact ⟨_, rfl, b, ks, rfl, sqT_same hB.tup sm, hB.at_.same sm, hB.bd.mono (by omega), hB.asc, by omega, fun H2 sm2 => q H2 (sm.trans sm2)⟩
theorem nv_get {l : List Nat} {i k : Nat} (h : l[i]? = some k) : (nv l)[i]? = some (V.int (k : Int)) := by
  unfold nv
  rw [List.getElem?_map, h]
  rfl
theorem nv_length (l : List Nat) : (nv l).length = l.length := List.length_map _
theorem nv_set (l : List Nat) (i k : Nat) : (nv l).set i (V.int (k : Int)) = nv (l.set i k) := by
  unfold nv
  rw [List.map_set]
theorem nv_rep (m : Nat) : (List.replicate m [V.int 0]).flatten = nv (List.replicate m 0) := by
  induction m with
  | zero => rfl
  | succ m ih =>
    rw [List.replicate_succ, List.flatten_cons, ih]
    rfl
theorem getD_get {l : List Nat} {i : Nat} (h : i < l.length) : l[i]? = some (l.getD i 0) := by
  rw [List.getD_eq_getElem?_getD, List.getElem?_eq_getElem h]
  rfl
theorem ixN_nat {n i : Nat} (h : i < n) : ixN n (i : Int) = some i := by
  unfold ixN
  rw [if_pos (by omega), if_pos (by omega), Int.toNat_natCast]
theorem or_pow (b k : Nat) : Builtin.bitOr (b : Int) ((2 : Int) ^ k) = ((b ||| 2 ^ k : Nat) : Int) := by
  have e : ((2 : Int) ^ k) = ((2 ^ k : Nat) : Int) := by
    push_cast
    rfl
  rw [e, Bits.bitOr_pp (Int.natCast_nonneg _) (Int.natCast_nonneg _), Int.toNat_natCast, Int.toNat_natCast]
theorem or_nat (b c : Nat) : Builtin.bitOr (b : Int) (c : Int) = ((b ||| c : Nat) : Int) := by
  rw [Bits.bitOr_pp (by omega) (by omega), Int.toNat_natCast, Int.toNat_natCast]
/-! ### befores_by -/
def sp_bby (K : PySem.W.Frag) : Sp := fun vs H Q _ => ∃ (bh : Addr) (bs : List Nat), vs = [.ref bh] ∧ H bh = some (.lst (nv bs)) ∧ bs.length ≤ 8 ∧
  ∀ H' z js, Same H H' → H z = none → H' z = some (.tup (kv js)) → KsAt K H' js → kp js = allP bs.length bs bs.length → Q (.ref z) H'
abbrev s_bby : Stmt := topS 8 -- @befores_by
abbrev n_bby : List Str := ["behind", "many", "one", "other"]
theorem sc_bby : FnScope n_bby ["behind"] (defScope s_bby) := ⟨rfl, rfl, rfl, by decide +kernel, rfl, by decide +kernel, by decide +kernel⟩
theorem ok_bby {f f1 : Addr} {fd fd1 : FuncData} (F : Fun K "befores_by" "befores_by" s_bby f fd) (D1 : Df K mg "lot_of" s_lotOf ["many", "bits"] f1 fd1) (B : Bl mg) : FnOk P w K mg base CX0 2 f fd ["behind"] (sp_bby K) := by
  have G1 : FnOk P w K mg base CX0 1 f1 fd1 ["many", "bits"] (sp_lotOf K) := ok_lotOf D1.F B
  refine F.ok sc_bby (fun vs H Q E h => ?_) (fun cdv A outer s H2 vs Q E hr h => ?_)
  · obtain ⟨bh, bs, rfl, _⟩ := h
    rfl
  · obtain ⟨bh, bs, rfl, hb, hm, q⟩ := h
    refine ⟨_, pss_cons (ps_set (i := 1) sc_bby.nd rfl (Or.inr rfl) (pe_callB call_len_seq (by rfl) B.len (by decide +kernel) (pa_cons (pv 0) pa_nil)))
      (pss_one (ps_ret (pe_callTy call_tuple_of (by rfl) B.tuple (by decide +kernel) (pa_cons (pe_lc2 (own := [("one", 2), ("other", 3)]) (vs1 := [3]) (g := (gName 2)) (tt := tYes) (wi1 := (iTup K (tCall (sp_lotOf K) [] E0 (tCons (tVar 1) (tCons (tOp (rIxL K) (tVar 0) (tVar 2)) tNil))))) (g1 := (gName 3)) (tt1 := tYes) (te := (tTup (tCons (tVar 2) (tCons (tVar 3) tNil)))) (by rfl) sc_bby.nd (pi_range1 (by rfl) B.range (pa_cons (pv 1) pa_nil)) (blkOk_by (N := n_bby) (sc := defScope s_bby) (by decide +kernel)) (by decide) (fun _ _ _ _ _ => by exact pg_name (i := 2) sc_bby.nd rfl (Or.inl rfl)) (fun _ _ _ _ _ => by exact pts_nil) (fun _ _ _ _ _ => by exact pi_tup (pe_call G1 (hr.mono (by decide)) rfl D1.g D1.F.kp D1.b .nil pass0 (pa_cons (pv 1) (pa_cons (pe_ix ix_list (pv 0) (pv 2) (fun _ _ => rfl)) pa_nil)))) (fun _ _ _ _ _ => by exact pg_name (i := 3) sc_bby.nd rfl (Or.inl rfl)) (fun _ _ _ _ _ => by exact pts_nil) (fun _ _ _ _ _ => by exact pe_tup (pa_cons (pv 2) (pa_cons (pv 3) pa_nil)))) pa_nil)))), ?_⟩
    refine ⟨_, rfl, bh, _, rfl, .inl (SqL.of hb), ?_⟩
    rw [nv_length]
    generalize hm' : bs.length = m at hm q ⊢
    refine ⟨_, rfl, m, rfl, by omega, by omega, fun D nD => ?_⟩
    have bD : bh ≠ D := ne_of_none hb nD
    refine out_range (lo := 0) (n := (m : Int).toNat) (fun i H' => ∃ acc : Kp, Same H2 H' ∧ H' D = some (.lst (kv acc)) ∧ KsAt K H' acc ∧ kp acc = allP m bs i) ?_ ?_ ?_
    · exact ⟨[], same_new nD, upd_same, .nil, rfl⟩
    · rintro i H3 hi ⟨acc, sm3, hD3, hk3, ea⟩
      have hi' : i < m := hi
      have li : i < bs.length := by rw [hm']; exact hi
      have ei : (0 : Int) + (i : Int) = (i : Int) := Int.zero_add _
      refine ⟨rfl, _, rfl, _, rfl, _, rfl, _, _, _, _, rfl, rfl, SqL.of (sm3 _ _ hb), by rw [ei]; exact atI_nat (nv_get (getD_get li)), m, bs.getD i 0, rfl, hm, fun H4 z sm4 nz hz => ?_⟩
      refine ⟨z, rfl, ⟨_, sqT_of hz⟩, ?_⟩
      refine in_tup (K := K) (a := z) (xs := nv (bitsOf m (bs.getD i 0))) (fun j H' => ∃ acc' : Kp, Same H2 H' ∧ H' z = some (.tup (nv (bitsOf m (bs.getD i 0)))) ∧ H' D = some (.lst (kv acc')) ∧ KsAt K H' acc' ∧ kp acc' = allP m bs i ++ (rowP m bs i).take j) ?_ ?_ ?_ ?_
      · exact ⟨acc, sm3.trans sm4, hz, sm4 _ _ hD3, hk3.same sm4, by rw [ea, List.take_zero, List.append_nil]⟩
      · rintro j H5 ⟨acc', _, hz5, _⟩
        exact sqT_of hz5
      · rintro j x H5 hj ⟨acc', sm5, hz5, hD5, hk5, ea5⟩
        have la : acc'.length ≤ 8 * 8 + 8 := by
          rw [← kp_length acc', ea5, List.length_append, List.length_take]
          have h1 := allP_length m bs i
          have h2 := rowP_length m bs i
          have h3 : i * m ≤ 8 * 8 := Nat.mul_le_mul (by omega) hm
          omega
        obtain ⟨c, gc, rfl⟩ : ∃ c, (bitsOf m (bs.getD i 0))[j]? = some c ∧ x = V.int (c : Int) := by
          unfold nv at hj
          rw [List.getElem?_map] at hj
          cases e : (bitsOf m (bs.getD i 0))[j]? with
          | none => rw [e] at hj; cases hj
          | some c => rw [e] at hj; exact ⟨c, rfl, (Option.some.inj hj).symm⟩
        refine ⟨rfl, _, rfl, _, rfl, (by show 2 ≤ sizeLine; decide), fun p np => ?_⟩
        have Dp : D ≠ p := ne_of_none hD5 np
        have np2 : H2 p = none := sm5.free np
        refine ⟨kv acc', by rw [upd_ne Dp]; exact hD5, by rw [kv_length]; exact small1000 (by omega), acc' ++ [(p, ((i : Int), (c : Int)))], same_upd (same_upd sm5 np2) nD, ?_, ?_, ?_, ?_⟩
        · rw [upd_ne (ne_of hz5 hD5 nofun), upd_ne (ne_of_none hz5 np)]
          exact hz5
        · rw [kv_append]
          exact upd_same
        · have h6 := (hk5.snoc (q := ((i : Int), (c : Int))) np).keep (t := D) (H' := upd (upd H5 p (.tup [.int (i : Int), .int (c : Int)])) D (.lst (kv acc' ++ [V.ref p]))) (Keep.refl D _).upd (by rw [upd_ne Dp]; exact hD5)
          rw [ei]
          exact h6
        · rw [kp_append, ea5, take_snoc (rowP_get gc), List.append_assoc]
          rfl
      · rintro H5 ⟨acc', sm5, hz5, hD5, hk5, ea5⟩
        refine ⟨acc', sm5, hD5, hk5, ?_⟩
        rw [ea5, allP_succ, List.take_of_length_le]
        show (rowP m bs i).length ≤ (nv (bitsOf m (bs.getD i 0))).length
        unfold rowP
        rw [nv_length, List.length_map]
        exact Nat.le_refl _
    · rintro H3 ⟨acc, sm3, hD3, hk3, ea⟩
      exact ⟨D, _, rfl, .inl ⟨SqL.of hD3, fun z nz => q _ z acc (same_upd sm3 (sm3.free nz)) (sm3.free nz) upd_same (hk3.same (same_new nz)) ea⟩⟩
/-! ### _with_following -/
def sp_follow (K : PySem.W.Frag) : Sp := fun vs H Q _ => ∃ (m : Nat) (b : Addr) (ks : Kp), vs = [.int m, .ref b] ∧ Bef K H m b ks ∧ m ≤ 8 ∧
  ∀ H' z js, Same H H' → H z = none → H' z = some (.tup (kv js)) → KsAt K H' js → Cl (kp ks) (kp js) → Q (.ref z) H'
abbrev s_follow : Stmt := topS 25
abbrev n_follow : List Str := ["many", "befores", "behind", "one", "other", "between"]
theorem sc_follow : FnScope n_follow ["many", "befores"] (defScope s_follow) := ⟨rfl, rfl, rfl, by decide +kernel, rfl, by decide +kernel, by decide +kernel⟩
theorem ok_follow {f f1 f2 : Addr} {fd fd1 fd2 : FuncData} (F : Fun K "_with_following" "_with_following" s_follow f fd) (D2 : Df K mg "befores_by" s_bby ["behind"] f2 fd2) (D1 : Df K mg "lot_of" s_lotOf ["many", "bits"] f1 fd1) (B : Bl mg) : FnOk P w K mg base CX0 3 f fd ["many", "befores"] (sp_follow K) := by
  have G2 : FnOk P w K mg base CX0 2 f2 fd2 ["behind"] (sp_bby K) := ok_bby D2.F D1 B
  refine F.ok sc_follow (fun vs H Q E h => ?_) (fun cdv A outer s H vs Q E hr h => ?_)
  · obtain ⟨m, b, ks, rfl, _⟩ := h
    rfl
  · obtain ⟨m, b, ks, rfl, hB, hm, q⟩ := h
    refine ⟨_, pss_cons (ps_set (i := 2) sc_follow.nd rfl (Or.inl rfl) (pe_op op_rep (pe_lst (pa_cons (pe_int) pa_nil)) (pv 0)))
      (pss_cut (ps_for PassesOwn.never rfl (pi_tup (pv 1)) (pg_tup (by rfl) (pgs_cons (pg_name (i := 3) sc_follow.nd rfl (Or.inl rfl)) (pgs_cons (pg_name (i := 4) sc_follow.nd rfl (Or.inl rfl)) pgs_nil)))
        (pss_one (ps_augS (pv 2) (pv 3) pget_list (pe_op op_oneShl pe_int (pv 4)) iop_or set_list)))
      (pss_cut (ps_for PassesOwn.never rfl (pi_range1 (by rfl) B.range (pa_cons (pv 0) pa_nil)) (pg_name (i := 5) sc_follow.nd rfl (Or.inl rfl))
        (pss_one (ps_for PassesOwn.never rfl (pi_range1 (by rfl) B.range (pa_cons (pv 0) pa_nil)) (pg_name (i := 3) sc_follow.nd rfl (Or.inl rfl))
          (pss_one (ps_if (pt_tru (pe_op op_oddN (pe_op op_shrNN (pe_ix ix_list (pv 2) (pv 3) (fun _ _ => rfl)) (pv 5)) (pe_int)))
            (pss_one (ps_augS (pv 2) (pv 3) pget_list (pe_ix ix_list (pv 2) (pv 5) (fun _ _ => rfl)) iop_or set_list))
            (pss_nil))))))
      (pss_one (ps_ret (pe_call G2 (hr.mono (by decide)) rfl D2.g D2.F.kp D2.b .nil pass0 (pa_cons (pv 2) pa_nil)))))), ?_⟩
    -- behind = [0] * many
    refine ⟨(by show 1 ≤ sizeLine; decide), fun p0 np0 => ?_⟩
    refine ⟨_, rfl, p0, m, _, rfl, rfl, upd_same, by omega, by omega, ?_, fun bh nbh => ?_⟩
    · show 1 * (m : Int).toNat ≤ sizeLine
      rw [Int.toNat_natCast]
      exact Nat.le_of_lt (small64 (by omega))
    have e0 : (List.replicate (m : Int).toNat [V.int 0]).flatten = nv (List.replicate m 0) := nv_rep m
    rw [e0]
    have nbh0 : H bh = none := (same_new np0).free nbh
    have sm0 : Same H (upd (upd H p0 (.lst [.int 0])) bh (.lst (nv (List.replicate m 0)))) := same_upd (same_new np0) nbh0
    have w0 : ∀ {p : Pr}, p ∈ kp ks → 0 ≤ p.1 ∧ p.1 < m ∧ 0 ≤ p.2 ∧ p.2 < m := fun h => hB.bd _ h
    -- for one, other in befores: behind[one] |= 1 << other
    refine ⟨fun σ' H' => ∃ (bs : List Nat) (v3 v4 : Option V), σ' = [some (.int m), some (.ref b), some (.ref bh), v3, v4, none] ∧ Same H H' ∧ H' bh = some (.lst (nv bs)) ∧ bs.length = m ∧ ∀ a c, Mx bs a c ↔ (a, c) ∈ kp ks, ?_, ?_⟩
    · refine ⟨_, rfl, b, rfl, ⟨_, sqT_same hB.tup sm0⟩, for_tup (K := K) (a := b) (xs := kv ks) (fun i σ' H' => ∃ (bs : List Nat) (v3 v4 : Option V), σ' = [some (.int m), some (.ref b), some (.ref bh), v3, v4, none] ∧ Same H H' ∧ H' bh = some (.lst (nv bs)) ∧ bs.length = m ∧ ∀ a c, Mx bs a c ↔ (a, c) ∈ (kp ks).take i) ?_ ?_ ?_ ?_⟩
      · refine ⟨List.replicate m 0, none, none, rfl, sm0, upd_same, List.length_replicate, fun a c => ⟨fun h => (Mx_zero m a c h).elim, fun h => by cases h⟩⟩
      · rintro i σ' H1 _ ⟨bs, v3, v4, rfl, sm, _⟩
        exact sqT_same hB.tup sm
      · rintro i x σ' H1 hi ⟨bs, v3, v4, rfl, sm, hb, lb, mx⟩
        obtain ⟨⟨pa, x1, x2⟩, gk, rfl⟩ := get_kv hi
        obtain ⟨a0, a1, c0, c1⟩ := w0 (List.mem_of_getElem? (kp_get gk))
        simp only at a0 a1 c0 c1
        obtain ⟨n1, rfl⟩ := Int.eq_ofNat_of_zero_le a0
        obtain ⟨n2, rfl⟩ := Int.eq_ofNat_of_zero_le c0
        have l1 : n1 < bs.length := by omega
        refine ⟨pa, _, rfl, (hB.at_.same sm) _ (List.mem_of_getElem? gk), rfl, _, _, rfl, _, _, rfl, rfl, ?_⟩
        refine ⟨_, rfl, _, rfl, bh, _, n1, _, rfl, rfl, SqL.of hb, nv_get (getD_get l1), _, rfl, n2, rfl, rfl, by omega, _, _, rfl, rfl, bh, _, n1, n1, rfl, rfl, hb, by rw [nv_length]; exact ixN_nat l1, ?_⟩
        refine ⟨bs.set n1 (bs.getD n1 0 ||| 2 ^ n2), _, _, rfl, same_upd sm nbh0, ?_, by rw [List.length_set]; exact lb, fun a c => ?_⟩
        · dsimp only
          rw [or_pow, nv_set]
          exact upd_same
        · rw [Mx_put l1, mx, take_snoc (kp_get gk), List.mem_append, List.mem_singleton, Prod.mk.injEq]
      · rintro σ' H1 ⟨bs, v3, v4, rfl, sm, hb, lb, mx⟩
        have et : (kp ks).take (kv ks).length = kp ks := List.take_of_length_le (by rw [kp_length, kv_length]; exact Nat.le_refl _)
        rw [et] at mx
        exact ⟨bs, v3, v4, rfl, sm, hb, lb, mx⟩
    · rintro σ' H1 ⟨bs, v3, v4, rfl, sm, hb, lb, mx⟩
      have w1 : War m (kp ks) 0 bs := .zero lb mx
      -- for between in range(many): for one in range(many)
      refine ⟨fun σ' H' => ∃ (bs : List Nat) (v3 v4 v5 : Option V), σ' = [some (.int m), some (.ref b), some (.ref bh), v3, v4, v5] ∧ Same H H' ∧ H' bh = some (.lst (nv bs)) ∧ War m (kp ks) m bs, ?_, ?_⟩
      · refine ⟨_, rfl, m, rfl, by omega, by omega, for_range (lo := 0) (n := m) (fun k σ' H' => ∃ (bs : List Nat) (v3 v4 v5 : Option V), σ' = [some (.int m), some (.ref b), some (.ref bh), v3, v4, v5] ∧ Same H H' ∧ H' bh = some (.lst (nv bs)) ∧ War m (kp ks) k bs) ?_ ?_ ?_⟩
        · exact ⟨bs, v3, v4, none, rfl, sm, hb, w1⟩
        · clear sm hb lb mx w1
          rintro k σ' H2 hk ⟨bs0, v3, v4, v5, rfl, sm, hb, wk⟩
          refine ⟨_, rfl, m, rfl, by omega, by omega, for_range (lo := 0) (n := m) (fun i σ' H' => ∃ (bs : List Nat) (v3 v4 : Option V), σ' = [some (.int m), some (.ref b), some (.ref bh), v3, v4, some (.int (0 + k))] ∧ Same H H' ∧ H' bh = some (.lst (nv bs)) ∧ Mid bs0 bs k i) ?_ ?_ ?_⟩
          · exact ⟨bs0, v3, v4, rfl, sm, hb, .zero bs0 k⟩
          · clear sm hb
            rintro i σ' H3 hi ⟨bs, v3, v4, rfl, sm, hb, md⟩
            have li : i < bs.length := by rw [md.1, wk.len]; exact hi
            have lk : k < bs.length := by rw [md.1, wk.len]; exact hk
            have gi := nv_get (getD_get li)
            have gk := nv_get (getD_get lk)
            have ei : (0 : Int) + (i : Int) = (i : Int) := Int.zero_add _
            have ek : (0 : Int) + (k : Int) = (k : Int) := Int.zero_add _
            refine ⟨_, rfl, _, rfl, _, _, _, _, rfl, rfl, SqL.of hb, by rw [ei]; exact atI_nat gi, _, rfl, bs.getD i 0, k, rfl, by rw [ek], _, rfl, rfl, _, rfl, ?_⟩
            rw [bit_val]
            cases e : (bs.getD i 0).testBit k with
            | false => exact iteF ⟨bs, _, _, rfl, sm, hb, md.no e⟩
            | true =>
              refine iteT ⟨_, rfl, _, rfl, bh, _, i, _, rfl, by rw [ei], SqL.of hb, gi, _, rfl, _, rfl, _, _, _, _, rfl, rfl, SqL.of hb, by rw [ek]; exact atI_nat gk, _, _, rfl, rfl, bh, _, i, i, rfl, by rw [ei], hb, by rw [nv_length]; exact ixN_nat li, ?_⟩
              refine ⟨bs.set i (bs.getD i 0 ||| bs.getD k 0), _, _, rfl, same_upd sm nbh0, ?_, md.yes (by rw [wk.len]; exact hi) e⟩
              dsimp only
              rw [or_nat, nv_set]
              exact upd_same
          · rintro σ' H3 ⟨bs, v3, v4, rfl, sm, hb, md⟩
            exact ⟨bs, v3, v4, _, rfl, sm, hb, wk.next md⟩
        · rintro σ' H2 ⟨bs, v3, v4, v5, rfl, sm, hb, wk⟩
          exact ⟨bs, v3, v4, v5, rfl, sm, hb, wk⟩
      · clear sm hb lb mx w1
        rintro σ' H2 ⟨bs, v3, v4, v5, rfl, sm, hb, wk⟩
        -- befores_by(behind)
        refine ⟨_, rfl, bh, bs, rfl, hb, by rw [wk.len]; exact hm, fun H3 z js sm3 nz hz hk ej => q H3 z js (sm.trans sm3) (sm.free nz) hz hk ?_⟩
        rw [ej, wk.len]
        exact wk.cl (by omega) hB.bd
end
end Ev

namespace Ev
open PySem PySem.Spec PyProof.Rows L2
/-! ### == and != by an own __eq__ -/
section
variable {X : Cx} {n : Nat} {CX : CXT} {C f : Addr} {fd : FuncData} {ps : List Str} {sp : Sp} {E : XK}
/-- a == b, a an instance of the class at C, whose __eq__ keeps sp; b of the type t -/
def rEqO (K : PySem.W.Frag) (C : Addr) (sp : Sp) (E : XK) : R2 := fun x y H Q => ∃ (a dx : Addr) (fs : List (Str × V)) (t : Value), x = .ref a ∧ H a = some (.ins C dx fs) ∧ TyX K H y t ∧ PySem.W.notFirst K C t = true ∧
  sp [x, y] H (fun v H' => ∃ b, v = .bl b ∧ Q (.bl b) H') E
def rNeO (K : PySem.W.Frag) (C : Addr) (sp : Sp) (E : XK) : R2 := fun x y H Q => ∃ (a dx : Addr) (fs : List (Str × V)) (t : Value), x = .ref a ∧ H a = some (.ins C dx fs) ∧ TyX K H y t ∧ PySem.W.notFirst K C t = true ∧
  sp [x, y] H (fun v H' => ∃ b, v = .bl b ∧ Q (.bl (!b)) H') E
theorem own_call {A : Around} {pins : List (Addr × Obj)} {σ : L2.St} {H : Hp} {s : Shared} {a : Addr} {y : V} {u : Value} {R : V → Hp → Prop} (G : FnOk X.prog X.w X.K X.mg X.base CX n f fd ps sp)
    (hb : Binds X.K fd ps []) (hx : Passes CX X E) (hr : Room n A) (fr : A.frames = X.A.frames) (I : Inv X pins σ H s) (ry : RelV y u) (h : sp [.ref a, y] H R E) :
    wpAny (model X.prog X.w) A (call (.ref f) [.ref a, u]) (EP X pins σ R) X.xe s := by
  have e0 : Env0 X.prog X.w X.K X.mg X.base A X.stack s H := by
    have e := I.env0
    exact ⟨by rw [fr]; exact e.frames, e.mod, e.bs, e.bsz, e.funs, e.frf, e.hok, e.bare⟩
  have hl := G.len _ _ _ _ h
  have bd := hb s [.ref a, u] I.kIn (by simpa using hl)
  rw [List.append_nil] at bd
  refine wpAny_call (codeAny_mono (G.run A X.stack s H ⟨[.ref a, u], []⟩ [.ref a, u] [.ref a, y] R E hr e0 bd (.cons rfl (.cons ry .nil)) h) fun r s' q => ?_)
  cases r with
  | error e => exact hx pins σ H s e s' I q
  | ok fl =>
    cases fl with
    | ret w => exact I.after q
    | next => exact q.elim
    | brk => exact q.elim
    | cont => exact q.elim
theorem op_eqO (G : FnOk X.prog X.w X.K X.mg X.base CX n f fd ps sp) (hs : PySem.W.findIn X.K (.ref C) "__eq__" = some (some (.ref f))) (hf : PySem.W.isFn X.K (.ref f) = true) (hb : Binds X.K fd ps []) (hx : Passes CX X E) (hr : Room n X.A) :
    OpR X (compareOp .Eq) (rEqO X.K C sp E) := by
  intro pins s σ H x y v u Q I rx ry h
  obtain ⟨a, dx, fs, t, rfl, ha, ty, nf, h⟩ := h
  cases rx
  obtain ⟨mA, J, _⟩ := ins_get I.hok ha
  obtain ⟨od, J, _⟩ := J.look
  obtain ⟨Pt, Z, hP, _⟩ := kit_of I ry ty
  show wpAny (model X.prog X.w) X.A (richCompare .Eq (.ref a) u) (EP X pins σ Q) X.xe s
  obtain ⟨m, hF⟩ := I.fr
  refine PySem.W.cmp_K (op := .Eq) (tb := t) hr.units0 hF I.ok.mod.kin J (Z.ty _ _ I.kIn hP) nf hs hf (wpAny_mono (own_call G hb hx hr rfl I ry h) (fun r s' q => ?_) fun _ _ e => e)
  obtain ⟨z, H', I', rz, b, rfl, q⟩ := q
  cases rz
  exact ⟨.bl b, H', I', rfl, q⟩
theorem ne_entry {A : Around} {pins : List (Addr × Obj)} {σ : L2.St} {H : Hp} {s : Shared} {a : Addr} {u : Value} {od : Option Obj} {ox : Obj} {R : PySem.Fin → Shared → Prop} (hu : A.units < cLine) (I : Inv X pins σ H s)
    (J : PySem.W.InstAt s.heap a ox C od) (hs : PySem.W.findIn X.K (.ref C) "__eq__" = some (some (.ref f))) (hf : PySem.W.isFn X.K (.ref f) = true)
    (h : wpAny (model X.prog X.w) A (call (.ref f) [.ref a, u]) (fun r s' => ∃ b, r = .bool b ∧ R (.done (.ret (.bool (!b)))) s') X.xe s) :
    wpAny (model X.prog X.w) A (Builtin.«object.__ne__» ⟨[.ref a, u], []⟩) R X.xe s := by
  unfold Builtin.«object.__ne__»
  repeat (first
    | with_reducible refine wpAny_cRoomFor hu ?_
    | (refine wpAny_bind (m := callSpecialIfBound? (.ref a) (Str.ofString "__eq__") [u]) (PySem.W.ifBound_K I.kIn J hs hf (wpAny_mono h (fun r s' q => by
        obtain ⟨b, rfl, q⟩ := q
        repeat (first | exact q | exact wpAny_pure q | exact wpAny_truthy_bool q | (refine wpAny_bind (m := truthy (.bool _)) (wpAny_truthy_bool ?_)) | wp_step)) fun _ _ e => e)))
    | wp_step)
theorem ifBound_ne {M : Model} {A : Around} {E' : Value → Shared → Prop} {s : Shared} {x : Addr} {ox : Obj} {od : Option Obj} {K : PySem.W.Frag} {args : List Value} {R : Option Value → Shared → Prop} (kin : K.In s.heap) (J : PySem.W.InstAt s.heap x ox C od)
    (hs : PySem.W.findIn K (.ref C) "__ne__" = some (some (.builtin "object.__ne__"))) (h : wpAny M A (call (.builtin "object.__ne__") (.ref x :: args)) (fun v => R (some v)) E' s) : wpAny M A (callSpecialIfBound? (.ref x) "__ne__" args) R E' s := by
  simp only [callSpecialIfBound?, bindSpecialIfBound?]
  refine wpAny_holding (wpAny_bind (wpAny_bind (wpAny_bind (J.type.here ((PySem.W.looks_findIn kin hs).here ?_)))))
  refine wpAny_bind (wpAny_askSetting (wpAny_ite ?_))
  have last : wpAny M A (call (.builtin "object.__ne__") ([.ref x] ++ args) >>= fun v => pure (some v)) R E' s := wpAny_bind (wpAny_mono h (fun v s' q => wpAny_pure q) fun _ _ q => q)
  split
  · exact wpAny_bind (wpAny_of_eq (F.cmp_object.ne.bind _) (wpAny_pure (by exact last)))
  · exact wpAny_tryCatch (wpAny_bind (wpAny_of_eq (F.cmp_object.ne.bind _) (wpAny_pure (by exact last))))
theorem op_neO (G : FnOk X.prog X.w X.K X.mg X.base CX n f fd ps sp) (hs : PySem.W.findIn X.K (.ref C) "__eq__" = some (some (.ref f))) (hf : PySem.W.isFn X.K (.ref f) = true) (hn : PySem.W.findIn X.K (.ref C) "__ne__" = some (some (.builtin "object.__ne__")))
    (hm : PySem.W.mroIn X.K C (.type "object") = some true) (hb : Binds X.K fd ps []) (hx : Passes CX X E) (hr : Room (n + 1) X.A) :
    OpR X (compareOp .NotEq) (rNeO X.K C sp E) := by
  intro pins s σ H x y v u Q I rx ry h
  obtain ⟨a, dx, fs, t, rfl, ha, ty, nf, h⟩ := h
  cases rx
  obtain ⟨mA, J, _⟩ := ins_get I.hok ha
  obtain ⟨od, J, _⟩ := J.look
  obtain ⟨Pt, Z, hP, _⟩ := kit_of I ry ty
  show wpAny (model X.prog X.w) X.A (richCompare .NotEq (.ref a) u) (EP X pins σ Q) X.xe s
  have kin := I.kIn
  have one : wpAny (model X.prog X.w) X.A (tryCompare (.ref a) "__ne__" u) (fun r s' => ∃ v, r = some v ∧ EP X pins σ Q v s') X.xe s := by
    unfold tryCompare
    refine wpAny_bind (ifBound_ne kin J hn (wpAny_call (codeAny_call_builtin F.cmp_object.ne.plain F.cmpEntry_ne (PySem.W.check_slot F.cmpKind_ne F.cmpSplit_ne (J.type.andThen (PySem.W.looks_mroIn kin hm)) (F.cmpArgs_ne _ _) ?_))))
    refine ne_entry (A := X.A.in1) hr.in1.units0 I J hs hf (wpAny_mono (own_call G hb hx hr.in1 rfl I ry h) (fun r s' q => ?_) fun _ _ e => e)
    obtain ⟨z, H', I', rz, b, rfl, q⟩ := q
    cases rz
    exact ⟨b, rfl, wpAny_pure ⟨_, rfl, .bl (!b), H', I', rfl, q⟩⟩
  simp only [richCompare, cmpInfo_NotEq, oneThing_ref]
  refine wpAny_holding (wpAny_bind (wpAny_cRoomFor hr.units0 ?_))
  refine wpAny_bind (J.type.here (wpAny_bind ((Z.ty _ _ I.kIn hP).here ?_)))
  split
  · rename_i q
    have e : PySem.W.subIn X.K t (.ref C) = some false := by
      rcases Bool.or_eq_true_iff.mp nf with e | e
      · rw [beq_iff_eq.mp e] at q
        simp at q
      · exact beq_iff_eq.mp e
    refine wpAny_bind ((PySem.W.looks_subIn kin e).here ?_)
    simp only [Bool.false_eq_true, if_false]
    refine wpAny_bind (wpAny_mono one (fun r s' z => ?_) fun _ _ e => e)
    obtain ⟨v, rfl, q⟩ := z
    exact wpAny_pure q
  · refine wpAny_bind (wpAny_pure ?_)
    simp only [Bool.false_eq_true, if_false]
    refine wpAny_bind (wpAny_mono one (fun r s' z => ?_) fun _ _ e => e)
    obtain ⟨v, rfl, q⟩ := z
    exact wpAny_pure q
end
end Ev

namespace Ev
open PySem L2
open C8 (pss_cut tCut InsC)
/-! ### a Web in the heap -/
theorem kmb : ¬ (("many" : Str) = "befores") := by decide +kernel
def webF (m : Int) (z : Addr) : List (Str × V) := putF "befores" (.ref z) (putF "many" (.int m) [])
theorem webF_many (m : Int) (z : Addr) : (webF m z).lookup ("many" : Str) = some (.int m) := by
  unfold webF
  rw [lookup_putF, if_neg kmb, lookup_putF, if_pos rfl]
theorem webF_bef (m : Int) (z : Addr) : (webF m z).lookup ("befores" : Str) = some (.ref z) := by
  unfold webF
  rw [lookup_putF, if_pos rfl]
structure WebAt (K : PySem.W.Frag) (C : Addr) (H : Hp) (x : Addr) (m : Nat) (js : Kp) : Prop where
  ob : ∃ dx z, H x = some (.ins C dx (webF m z)) ∧ SqT K H z (kv js)
  at_ : KsAt K H js
theorem WebAt.same {K : PySem.W.Frag} {C : Addr} {H H' : Hp} {x : Addr} {m : Nat} {js : Kp} (h : WebAt K C H x m js) (k : Same H H') : WebAt K C H' x m js := by
  obtain ⟨dx, z, h1, h2⟩ := h.ob
  exact ⟨⟨dx, z, k _ _ h1, sqT_same h2 k⟩, h.at_.same k⟩
theorem WebAt.keep {K : PySem.W.Frag} {C : Addr} {H H' : Hp} {x t : Addr} {m : Nat} {js : Kp} {ys : List V} (h : WebAt K C H x m js) (k : Keep t H H') (ht : H t = some (.lst ys)) : WebAt K C H' x m js := by
  obtain ⟨dx, z, h1, h2⟩ := h.ob
  exact ⟨⟨dx, z, k _ _ h1 (ne_of h1 ht nofun), sqT_keep h2 k ht⟩, h.at_.keep k ht⟩
theorem sub_ty {K : PySem.W.Frag} {C : Addr} {T : String} {l : List Value} (e : fastBuiltinMro T = some l) (h : l.contains (.ref C) = false) : PySem.W.subIn K (.type T) (.ref C) = some false := by
  show (fastBuiltinMro T).map (·.contains (.ref C)) = some false
  rw [e]
  show some (l.contains (.ref C)) = some false
  rw [h]
theorem kit_no {K : PySem.W.Frag} {C : Addr} {T : String} {l : List Value} (iC : PySem.W.isClsIn K C = true) (tC : PySem.W.typeIn K (.ref C) = some (.type "type")) (e : fastBuiltinMro T = some l) (h : l.contains (.ref C) = false) :
    PySem.W.kitOne K (.type T) (.ref C) = some false := by
  have e1 : ((PySem.W.clsIn K C).isSome && PySem.W.typeIn K (.ref C) == some (.type "type")) = true := by
    have i : (PySem.W.clsIn K C).isSome = true := iC
    rw [i, tC]
    rfl
  show (if (Value.type T == .ref C) = true then some true else if ((PySem.W.clsIn K C).isSome && PySem.W.typeIn K (.ref C) == some (.type "type")) = true then PySem.W.subIn K (.type T) (.ref C) else none) = some false
  rw [if_neg (show ¬ ((Value.type T == .ref C) = true) by simp), if_pos e1]
  exact sub_ty e h
theorem kit_me {K : PySem.W.Frag} {C : Addr} : PySem.W.kitOne K (.ref C) (.ref C) = some true := by
  unfold PySem.W.kitOne
  simp
/-- the class Web, as the top has made it -/
structure WebC (K : PySem.W.Frag) (mg : Str → Option Value) (C fI fE : Addr) : Prop where
  ins : InsC K C
  nM : NoAttr K C "many"
  nB : NoAttr K C "befores"
  mkr : Mk K C fI
  g : mg "Web" = some (.ref C)
  eq : PySem.W.findIn K (.ref C) "__eq__" = some (some (.ref fE))
  efn : PySem.W.isFn K (.ref fE) = true
  ne : PySem.W.findIn K (.ref C) "__ne__" = some (some (.builtin "object.__ne__"))
  most : ∃ t, mg "MOST_NAMES" = some (.int 8 t)
  kN : PySem.W.kitOne K (.type "NoneType") (.ref C) = some false
  kI : PySem.W.kitOne K (.type "int") (.ref C) = some false
  kT : PySem.W.kitOne K (.type "tuple") (.ref C) = some false
  kL : PySem.W.kitOne K (.type "list") (.ref C) = some false
  kS : PySem.W.kitOne K (.type "str") (.ref C) = some false
  kD : PySem.W.kitOne K (.type "dict") (.ref C) = some false
section
variable {P : Program} {w : World} {K : PySem.W.Frag} {mg : Str → Option Value} {base : Heap}
def sp_init (K : PySem.W.Frag) (C : Addr) : Sp := fun vs H Q _ => ∃ (x dx b : Addr) (m : Nat) (ks : Kp), vs = [.ref x, .int m, .ref b] ∧ H x = some (.ins C dx []) ∧ 1 ≤ m ∧ m ≤ 8 ∧ Bef K H m b ks ∧ UpsOk (kp ks) ∧
  ∀ H' js, Keep x H H' → WebAt K C H' x m js → Cl (kp ks) (kp js) → Q .non H'
abbrev s_init : Stmt := inClass (topS 22) 0
abbrev n_init : List Str := ["self", "many", "befores", "following", "one", "other"]
theorem sc_init : FnScope n_init ["self", "many", "befores"] (defScope s_init) := ⟨rfl, rfl, rfl, by decide +kernel, rfl, by decide +kernel, by decide +kernel⟩
theorem any_false (n : Nat) : (List.replicate n false).any id = false := by
  rw [List.any_eq_false]
  intro x hx
  rw [List.eq_of_mem_replicate hx]
  exact Bool.false_ne_true
theorem repF_snoc (n : Nat) : (List.replicate (n + 1) false).map V.bl = (List.replicate n false).map V.bl ++ [V.bl false] := by
  rw [List.replicate_succ', List.map_append]
  rfl
theorem ok_init {f C fE f1 f2 f3 f4 f5 f6 f7 : Addr} {fd fd1 fd2 fd3 fd4 fd5 fd6 fd7 : FuncData} (F : Fun K "__init__" "Web.__init__" s_init f fd) (W : WebC K mg C f fE)
    (D1 : Df K mg "is_integer" s_isInt ["thing"] f1 fd1) (D2 : Df K mg "is_name" s_isName ["many", "thing"] f2 fd2) (D3 : Df K mg "is_ascending" s_isAsc ["items"] f3 fd3) (D4 : Df K mg "_is_before" s_isBef ["many", "thing"] f4 fd4)
    (D5 : Df K mg "_are_befores" s_areBef ["many", "thing"] f5 fd5) (D6 : Df K mg "_with_following" s_follow ["many", "befores"] f6 fd6) {fBB : Addr} {fdBB : FuncData} (DBB : Df K mg "befores_by" s_bby ["behind"] fBB fdBB) (D7 : Df K mg "lot_of" s_lotOf ["many", "bits"] f7 fd7) (B : Bl mg) :
    FnOk P w K mg base CX0 5 f fd ["self", "many", "befores"] (sp_init K C) := by
  have G1 : FnOk P w K mg base CX0 1 f1 fd1 ["thing"] (sp_isInt K) := ok_isInt D1.F B
  have G5 : FnOk P w K mg base CX0 4 f5 fd5 ["many", "thing"] (sp_areBef K) := ok_areBef D5.F D1 D2 D3 D4 B
  have G6 : FnOk P w K mg base CX0 3 f6 fd6 ["many", "befores"] (sp_follow K) := ok_follow D6.F DBB D7 B
  obtain ⟨tk, mgN⟩ := W.most
  refine F.ok sc_init (fun vs H Q E h => ?_) (fun cdv A outer s H vs Q E hr h => ?_)
  · obtain ⟨x, dx, b, m, ks, rfl, _⟩ := h
    rfl
  · obtain ⟨x, dx, b, m, ks, rfl, hx, h1, h8, hB, ok, q⟩ := h
    have few := hB.few (by omega)
    refine ⟨_, pss_cons (ps_if (PW.pt (pw_or (pt_not (pt_val (pe_call G1 (hr.mono (by decide)) rfl D1.g D1.F.kp D1.b .nil pass0 (pa_cons (pv 1) pa_nil)))) (pw_or1 (pt_not (pt_chain op_le op_le (pe_int) (pv 1) (pe_glob (v := .int 8) rfl mgN ⟨_, rfl⟩))))))
        (pss_one ps_never)
        (pss_nil))
      (pss_cons (ps_if (pt_not (pt_val (pe_call G5 hr rfl D5.g D5.F.kp D5.b .nil pass0 (pa_cons (pv 1) (pa_cons (pv 2) pa_nil)))))
        (pss_one ps_never)
        (pss_nil))
      (pss_cons (ps_set (i := 3) sc_init.nd rfl (Or.inl rfl) (pe_call G6 (hr.mono (by decide)) rfl D6.g D6.F.kp D6.b .nil pass0 (pa_cons (pv 1) (pa_cons (pv 2) pa_nil))))
      (pss_cons (ps_if (pt_val (pe_callB (cr_any rfl) (by rfl) B.any (by decide +kernel) (pa_cons (pe_lc (own := [("one", 4), ("other", 5)]) (g := gTup K 2 (gCons (gName 4) (gCons (gName 5) gNil))) (by rfl) sc_init.nd (pi_tup (pv 3)) (blkOk_by (N := n_init) (sc := defScope s_init) (by decide +kernel)) (fun _ _ _ _ _ => by exact pg_tup (by rfl) (pgs_cons (pg_name (i := 4) sc_init.nd rfl (Or.inl rfl)) (pgs_cons (pg_name (i := 5) sc_init.nd rfl (Or.inl rfl)) pgs_nil))) (fun _ _ _ _ _ => pts_nil) (fun _ _ _ _ _ => pe_cmpR op_eq (pv 4) (pv 5) (nomark _))) pa_nil)))
        (pss_one ps_never)
        (pss_nil))
      (pss_cons (ps_fld (pv 0) (pv 1) rfl)
      (pss_one (ps_fld (pv 0) (pv 3) rfl)))))), ?_⟩
    -- not is_integer(many) or not 1 <= many <= MOST_NAMES
    refine ⟨_, rfl, _, _, _, _, rfl, .base (.int m), int_kit.1, int_kit.2, true, rfl, iteF ?_⟩
    refine ⟨_, rfl, _, _, rfl, rfl, true, congrArg V.bl (decide_eq_true (show (1 : Int) ≤ m by omega)), iteT ⟨_, _, rfl, rfl, true, congrArg V.bl (decide_eq_true (show (m : Int) ≤ 8 by omega)), iteF ?_⟩⟩
    -- not _are_befores(many, befores)
    refine ⟨_, rfl, _, rfl, m, b, ks, rfl, hB, by omega, fun H1 sm1 => ⟨true, rfl, iteF ?_⟩⟩
    -- following
    have hB1 : Bef K H1 m b ks := ⟨sqT_same hB.tup sm1, hB.at_.same sm1, hB.bd, hB.ne, hB.asc⟩
    refine ⟨_, rfl, _, rfl, m, b, ks, rfl, hB1, h8, fun H2 z js sm2 nz hz hk2 cl => ?_⟩
    have okj : UpsOk (kp js) := ok.tc fun ⟨a, c⟩ h => (cl.mem a c).mp h
    have fewj := okj.few cl.asc
    rw [kp_length] at fewj
    -- any([one == other ..])
    refine ⟨_, rfl, z, rfl, ⟨_, sqT_of hz⟩, fun D nD => ?_⟩
    refine lc_tup (K := K) (a := z) (xs := kv js) (fun i H' => Same H2 H' ∧ H' D = some (.lst ((List.replicate i false).map V.bl))) ?_ ?_ ?_ ?_
    · exact ⟨same_new nD, upd_same⟩
    · rintro i H3 _ ⟨sm, _⟩
      exact sqT_of (sm _ _ hz)
    · rintro i y H3 hi ⟨sm, hD⟩
      obtain ⟨⟨pa, y1, y2⟩, gk, rfl⟩ := get_kv hi
      have lt : i < js.length := (List.getElem?_eq_some_iff.mp gk).1
      refine ⟨pa, _, rfl, (hk2.same sm) _ (List.mem_of_getElem? gk), rfl, _, _, rfl, _, _, rfl, rfl, rfl, _, rfl, _, rfl, rfl, _, hD, ?_, same_upd sm nD, ?_⟩
      · rw [List.length_map, List.length_replicate]
        exact small64 (by omega)
      · rw [upd_same, decide_eq_false (fun e => okj.ne _ (List.mem_of_getElem? (kp_get gk)) (V.int.inj e)), repF_snoc]
    · rintro H3 ⟨sm3, hD⟩
      refine ⟨D, _, rfl, SqL.of hD, false, by rw [any_false], iteF ?_⟩
      have sm : Same H H3 := sm1.trans (sm2.trans sm3)
      -- self.many = many; self.befores = following
      have hx3 := sm _ _ hx
      refine ⟨_, rfl, _, rfl, x, C, dx, _, rfl, hx3, W.ins.cl, W.nM, (by show 0 < 1000; decide), _, rfl, _, rfl, x, C, dx, _, rfl, upd_same, W.ins.cl, W.nB, (by show 1 < 1000; decide), ?_⟩
      have hz3 : H3 z = some (.tup (kv js)) := sm3 _ _ hz
      have zx : z ≠ x := ne_of hz3 hx3 nofun
      have hk3 : KsAt K H3 js := hk2.same sm3
      rw [upd_upd]
      refine q _ js (Keep.upd (same_keep sm)) ⟨⟨dx, z, upd_same, sqT_of (by rw [upd_ne zx]; exact hz3)⟩, fun j mj => ?_⟩ cl
      rcases hk3 j mj with (h | ⟨o, h⟩) | h
      · exact .inl (.inl (by rw [upd_ne (ne_of h hx3 nofun)]; exact h))
      · exact .inl (.inr ⟨o, by rw [upd_ne (ne_of h hx3 nofun)]; exact h⟩)
      · exact .inr h
end
end Ev

namespace Ev
open PySem L2
/-! ### rows of pairs as data, compared -/
def prD (p : Pr) : PyData := .tuple [.int p.1, .int p.2]
def prsD (ps : List Pr) : PyData := .tuple (ps.map prD)
def prsL (ps : List Pr) : PyData := .list (ps.map prD)
theorem eqv_prD (p q : Pr) : PyData.eqv (prD p) (prD q) = decide (p = q) := by
  obtain ⟨a, b⟩ := p
  obtain ⟨c, d⟩ := q
  unfold prD
  simp only [PyData.eqv, PyData.eqvAll, Bool.and_true]
  by_cases h1 : a = c
  · by_cases h2 : b = d
    · subst h1
      subst h2
      simp
    · simp [h2]
  · simp [h1]
theorem eqvAll_prs : ∀ (ps qs : List Pr), PyData.eqvAll (ps.map prD) (qs.map prD) = decide (ps = qs)
  | [], [] => rfl
  | [], q :: qs => by
    simp only [List.map_cons, List.map_nil, PyData.eqvAll]
    simp
  | p :: ps, [] => by
    simp only [List.map_cons, List.map_nil, PyData.eqvAll]
    simp
  | p :: ps, q :: qs => by
    simp only [List.map_cons, PyData.eqvAll, eqv_prD, eqvAll_prs ps qs]
    by_cases h1 : p = q
    · by_cases h2 : ps = qs
      · simp [h1, h2]
      · simp [h2]
    · simp [h1]
theorem eqv_prs (ps qs : List Pr) : PyData.eqv (prsD ps) (prsD qs) = decide (ps = qs) := by
  unfold prsD
  simp only [PyData.eqv]
  exact eqvAll_prs ps qs
theorem eqv_prsL (ps qs : List Pr) : PyData.eqv (prsL ps) (prsL qs) = decide (ps = qs) := by
  unfold prsL
  simp only [PyData.eqv]
  exact eqvAll_prs ps qs
theorem lay_prs : ∀ ps : List Pr, PyData.canLayAll0 (ps.map prD) = true
  | [] => rfl
  | p :: ps => by
    simp only [List.map_cons, PyData.canLayAll0, lay_prs ps, Bool.and_true]
    rfl
theorem depth_prs : ∀ ps : List Pr, PyData.depthAll (ps.map prD) ≤ 1
  | [] => Nat.zero_le _
  | p :: ps => by
    simp only [List.map_cons, PyData.depthAll]
    have h := depth_prs ps
    have h1 : (prD p).depth = 1 := rfl
    omega
theorem shaped_prs (ps : List Pr) : SeqAt.shaped (prsD ps) = true := by
  have h := depth_prs ps
  have e : (prsD ps).depth = PyData.depthAll (ps.map prD) + 1 := rfl
  have c : (prsD ps).canLay0 = true := lay_prs ps
  unfold SeqAt.shaped
  rw [c, Bool.true_and]
  exact decide_eq_true (by omega)
theorem shaped_prsL (ps : List Pr) : SeqAt.shaped (prsL ps) = true := by
  have h := depth_prs ps
  have e : (prsL ps).depth = PyData.depthAll (ps.map prD) + 1 := rfl
  have c : (prsL ps).canLay0 = true := lay_prs ps
  unfold SeqAt.shaped
  rw [c, Bool.true_and]
  exact decide_eq_true (by omega)
theorem dp_all {K : PySem.W.Frag} {H : Hp} : ∀ {ks : Kp}, KsAt K H ks → DpAll K H (kv ks) ((kp ks).map prD)
  | [], _ => .nil
  | k :: ks, h => .cons (.tup (h k List.mem_cons_self) (.cons (.int _) (.cons (.int _) .nil))) (dp_all fun j m => h j (List.mem_cons_of_mem _ m))
theorem dp_prs {K : PySem.W.Frag} {H : Hp} {z : Addr} {ks : Kp} (h : SqT K H z (kv ks)) (a : KsAt K H ks) : Dp K H (.ref z) (prsD (kp ks)) := .tup h (dp_all a)
theorem dp_prsL {K : PySem.W.Frag} {H : Hp} {z : Addr} {ks : Kp} (h : SqL K H z (kv ks)) (a : KsAt K H ks) : Dp K H (.ref z) (prsL (kp ks)) := .lst h (dp_all a)
end Ev

namespace Ev
open PySem L2
open C8 (pss_cut tCut InsC)
section
variable {P : Program} {w : World} {K : PySem.W.Frag} {mg : Str → Option Value} {base : Heap}
/-! ### Web.__eq__ -/
/-- what is compared with a web: another one, or what is none by its type -/
inductive OthV (K : PySem.W.Frag) (C : Addr) (H : Hp) (m : Nat) (js : Kp) : V → Bool → Prop
  | web {x : Addr} {m2 : Nat} {js2 : Kp} (h : WebAt K C H x m2 js2) : OthV K C H m js (.ref x) (decide (m = m2) && decide (kp js = kp js2))
  | other {y : V} {t : Value} (ty : TyX K H y t) (h : PySem.W.kitOne K t (.ref C) = some false) : OthV K C H m js y false
def sp_eq (K : PySem.W.Frag) (C : Addr) : Sp := fun vs H Q _ => ∃ (x : Addr) (y : V) (m : Nat) (js : Kp) (b : Bool), vs = [.ref x, y] ∧ WebAt K C H x m js ∧ OthV K C H m js y b ∧ Q (.bl b) H
abbrev s_eq : Stmt := inClass (topS 22) 1
theorem sc_eq : FnScope ["self", "other"] ["self", "other"] (defScope s_eq) := ⟨rfl, rfl, rfl, by decide +kernel, rfl, by decide +kernel, by decide +kernel⟩
theorem ok_eq {f C fI : Addr} {fd : FuncData} (F : Fun K "__eq__" "Web.__eq__" s_eq f fd) (W : WebC K mg C fI f) (B : Bl mg) : FnOk P w K mg base CX0 1 f fd ["self", "other"] (sp_eq K C) := by
  refine F.ok sc_eq (fun vs H Q E h => ?_) (fun cdv A outer s H vs Q E hr h => ?_)
  · obtain ⟨x, y, m, js, b, rfl, _⟩ := h
    rfl
  · obtain ⟨x, y, m, js, b, rfl, hw, ho, q⟩ := h
    refine ⟨_, pss_one (ps_ret (pe_and (pe_callB call_isi (by rfl) B.isinstance (by decide +kernel) (pa_cons (pv 1) (pa_cons (pe_glob (v := .ref C) rfl W.g rfl) pa_nil))) (pe_and (pe_cmpR op_eq (pe_fld (pv 0) rfl) (pe_fld (pv 1) rfl) (nomark _)) (pe_one (pe_cmpR (op_eqD hr.units) (pe_fld (pv 0) rfl) (pe_fld (pv 1) rfl) (nomark _)))))), ?_⟩
    cases ho with
    | other ty k => exact ⟨_, rfl, _, _, _, _, _, rfl, .own C, ty, k, false, rfl, iteF q⟩
    | @web x2 m2 js2 h2 =>
      obtain ⟨dx, z, h1, hz⟩ := hw.ob
      obtain ⟨dx2, z2, h3, hz2⟩ := h2.ob
      refine ⟨_, rfl, _, _, _, _, _, rfl, .own C, .base (.ins h3 W.ins.cl W.ins.ha W.ins.hn W.ins.htk W.ins.hm), W.ins.me, true, rfl, iteT ?_⟩
      refine ⟨_, rfl, x, C, dx, _, _, rfl, h1, W.ins.cl, W.nM, webF_many _ _, _, rfl, x2, C, dx2, _, _, rfl, h3, W.ins.cl, W.nM, webF_many _ _, rfl, _, rfl, ?_⟩
      by_cases e : m = m2
      · subst e
        rw [decide_eq_true rfl, Bool.true_and] at q
        rw [decide_eq_true rfl]
        refine iteT ⟨_, rfl, x, C, dx, _, _, rfl, h1, W.ins.cl, W.nB, webF_bef _ _, _, rfl, x2, C, dx2, _, _, rfl, h3, W.ins.cl, W.nB, webF_bef _ _, _, _, dp_prs hz hw.at_, dp_prs hz2 h2.at_, shaped_prs _, shaped_prs _, ?_⟩
        rw [eqv_prs]
        exact q
      · rw [decide_eq_false e, Bool.false_and] at q
        have e2 : ¬ V.int (m : Int) = V.int (m2 : Int) := fun h => e (by
          have := V.int.inj h
          omega)
        rw [decide_eq_false e2]
        exact iteF q
end
end Ev

namespace Ev
open PySem L2
open C8 (pss_cut tCut InsC)
section
variable {P : Program} {w : World} {K : PySem.W.Frag} {mg : Str → Option Value} {base : Heap}
theorem Bef.same {H H' : Hp} {m : Int} {b : Addr} {ks : Kp} (h : Bef K H m b ks) (k : Same H H') : Bef K H' m b ks := ⟨sqT_same h.tup k, h.at_.same k, h.bd, h.ne, h.asc⟩
theorem Bef.keep {H H' : Hp} {m : Int} {b t : Addr} {ks : Kp} {ys : List V} (h : Bef K H m b ks) (k : Keep t H H') (ht : H t = some (.lst ys)) : Bef K H' m b ks := ⟨sqT_keep h.tup k ht, h.at_.keep k ht, h.bd, h.ne, h.asc⟩
theorem make_same {H H' : Hp} {x dx : Addr} {o1 o2 : HO} (nx : H x = none) (ndx : H dx = none) (k : Keep x (upd (upd H dx o1) x o2) H') : Same H H' := fun b o e => by
  have h1 := ne_of_none e nx
  have h2 := ne_of_none e ndx
  exact k b o (by rw [upd_ne h1, upd_ne h2]; exact e) h1
/-- Web(m, b), of right befores -/
theorem rd_make {C : Addr} {H : Hp} {b : Addr} {m : Nat} {ks : Kp} {R : Addr → Hp → Prop} (hB : Bef K H m b ks) (ok : UpsOk (kp ks)) (h1 : 1 ≤ m) (h8 : m ≤ 8)
    (q : ∀ x H' js, Same H H' → H x = none → WebAt K C H' x m js → Cl (kp ks) (kp js) → R x H') :
    ∀ x dx, H x = none → H dx = none → dx ≠ x → sp_init K C (.ref x :: ([.int m, .ref b] ++ [])) (upd (upd H dx (.own x)) x (.ins C dx [])) (fun v H2 => v = .non ∧ R x H2) E0 := by
  intro x dx nx ndx ne
  have sm : Same H (upd (upd H dx (.own x)) x (.ins C dx [])) := same_upd (same_new ndx) nx
  refine ⟨x, dx, b, m, ks, rfl, upd_same, h1, h8, hB.same sm, ok, fun H' js k wa cl => ⟨rfl, q x H' js (make_same nx ndx k) nx wa cl⟩⟩
/-- a pair (number, befores) -/
def EntAt (K : PySem.W.Frag) (H : Hp) (x : V) : Prop := ∃ (e : Addr) (n : Nat) (b : Addr) (ks : Kp), x = .ref e ∧ SqT K H e [.int n, .ref b] ∧ 1 ≤ n ∧ n ≤ 8 ∧ Bef K H n b ks ∧ UpsOk (kp ks)
theorem EntAt.same {H H' : Hp} {x : V} (h : EntAt K H x) (k : Same H H') : EntAt K H' x := by
  obtain ⟨e, n, b, ks, rfl, h1, h2, h3, h4, h5⟩ := h
  exact ⟨e, n, b, ks, rfl, sqT_same h1 k, h2, h3, h4.same k, h5⟩
theorem EntAt.keep {H H' : Hp} {x : V} {t : Addr} {ys : List V} (h : EntAt K H x) (k : Keep t H H') (ht : H t = some (.lst ys)) : EntAt K H' x := by
  obtain ⟨e, n, b, ks, rfl, h1, h2, h3, h4, h5⟩ := h
  exact ⟨e, n, b, ks, rfl, sqT_keep h1 k ht, h2, h3, h4.keep k ht, h5⟩
theorem EntAt.new {H : Hp} {e : Addr} {n : Nat} {b : Addr} {ks : Kp} (ne : H e = none) (h2 : 1 ≤ n) (h3 : n ≤ 8) (h4 : Bef K H n b ks) (h5 : UpsOk (kp ks)) : EntAt K (upd H e (.tup [.int n, .ref b])) (.ref e) :=
  ⟨e, n, b, ks, rfl, sqT_of upd_same, h2, h3, h4.same (same_new ne), h5⟩
/-! ### pairs turned about -/
def swp (p : Pr) : Pr := (p.2, p.1)
theorem swp_inj {p q : Pr} (h : swp p = swp q) : p = q := by
  obtain ⟨a, b⟩ := p
  obtain ⟨c, d⟩ := q
  have e1 : b = d := congrArg Prod.fst h
  have e2 : a = c := congrArg Prod.snd h
  simp [e1, e2]
theorem UpsOk.swap {ps : List Pr} (h : UpsOk ps) : UpsOk (ps.map swp) := by
  obtain ⟨r, u⟩ := h.up
  refine ⟨fun p m => ?_, fun a => 7 - r a, fun a b m => ?_, fun a b m => by omega⟩
  · obtain ⟨q, mq, rfl⟩ := List.mem_map.mp m
    have := h.bd q mq
    exact ⟨this.2.2.1, this.2.2.2, this.1, this.2.1⟩
  · obtain ⟨⟨c, d⟩, mq, e⟩ := List.mem_map.mp m
    have e1 : d = a := congrArg Prod.fst e
    have e2 : c = b := congrArg Prod.snd e
    subst e1
    subst e2
    have h1 := u.up c d mq
    have h2 := u.top c d mq
    show 7 - r d < 7 - r c
    omega
theorem In.swap {n : Int} {ps : List Pr} (h : In n ps) : In n (ps.map swp) := fun p m => by
  obtain ⟨q, mq, rfl⟩ := List.mem_map.mp m
  have := h q mq
  exact ⟨this.2.2.1, this.2.2.2, this.1, this.2.1⟩
theorem nodup_swap {ps : List Pr} (h : ps.Nodup) : (ps.map swp).Nodup := List.pairwise_map.mpr (h.imp fun ne e => ne (swp_inj e))
theorem cut_one (xs : List V) : cutV xs (some 1) none = xs.drop 1 := by
  unfold cutV
  rw [show HT.sIx xs.length 0 (some 1) = min 1 xs.length from HT.sIx_nat xs.length 0 1, HT.sIx_none]
  cases xs with
  | nil => rfl
  | cons x r =>
    rw [List.length_cons, show min 1 (r.length + 1) = 1 by omega]
    show (List.take (r.length + 1 - 1) r) = r
    rw [Nat.add_sub_cancel]
    exact List.take_length
theorem kv_drop (ks : Kp) : (kv ks).drop 1 = kv (ks.drop 1) := by
  unfold kv
  rw [List.map_drop]
theorem Bef.drop {H : Hp} {m : Int} {b z : Addr} {ks : Kp} (h : Bef K H m b ks) (hz : SqT K H z (kv (ks.drop 1))) : Bef K H m z (ks.drop 1) := by
  have sub : ∀ k ∈ ks.drop 1, k ∈ ks := fun k m => List.mem_of_mem_drop m
  have e : kp (ks.drop 1) = (kp ks).drop 1 := by
    unfold kp
    rw [List.map_drop]
  refine ⟨hz, h.at_.sub sub, ?_, ?_, ?_⟩
  · rw [e]
    exact h.bd.sub fun q m => List.mem_of_mem_drop m
  · rw [e]
    exact fun p m => h.ne p (List.mem_of_mem_drop m)
  · rw [e]
    exact List.Pairwise.drop h.asc
def sp_law (K : PySem.W.Frag) : Sp := fun vs H Q _ => ∃ (a : Addr) (ns : List Int), vs = [.ref a] ∧ SqL K H a (ns.map V.int) ∧ ns.length ≤ 63 ∧ ∀ H', Q (.bl true) H'
end
end Ev

namespace Ev
open PySem PySem.Spec PyProof.Rows L2
/-! ### a pair in a row of pairs -/
theorem any_prs (p : Pr) : ∀ ps : List Pr, ((ps.map prD).any fun y => PyData.eqv y (prD p)) = decide (p ∈ ps)
  | [] => rfl
  | q :: ps => by
    rw [List.map_cons, List.any_cons, any_prs p ps, eqv_prD]
    by_cases h1 : q = p
    · simp [h1]
    · by_cases h2 : p ∈ ps
      · simp [h2]
      · have h3 : ¬ p = q := fun e => h1 e.symm
        simp [h1, h2, h3]
def rInP (K : PySem.W.Frag) (neg : Bool) : R2 := fun x y H Q => ∃ (p : Pr) (b l : Addr) (ks : Kp), x = .ref b ∧ y = .ref l ∧ SqT K H b [.int p.1, .int p.2] ∧ (SqL K H l (kv ks) ∨ SqT K H l (kv ks)) ∧ KsAt K H ks ∧
  Q (.bl (if neg then !decide (p ∈ kp ks) else decide (p ∈ kp ks))) H
section
variable {X : Cx}
theorem dp_pair {K : PySem.W.Frag} {H : Hp} {b : Addr} {p : Pr} (h : SqT K H b [.int p.1, .int p.2]) : Dp K H (.ref b) (prD p) := .tup h (.cons (.int _) (.cons (.int _) .nil))
theorem room_pairs {A : Around} {ps : List Pr} {p : Pr} (hu : A.units + 64 < cLine) : A.units + 1 + min (PyData.depthAll (ps.map prD)) (prD p).depth < cLine := by
  have h1 := depth_prs ps
  have h2 : min (PyData.depthAll (ps.map prD)) (prD p).depth ≤ PyData.depthAll (ps.map prD) := Nat.min_le_left _ _
  omega
theorem op_inP (hu : X.A.units + 64 < cLine) : OpR X (compareOp .In) (rInP X.K false) := by
  intro pins s σ H x y v u Q I rx ry h
  obtain ⟨p, b, l, ks, rfl, rfl, hb, hl, hk, q⟩ := h
  obtain ⟨as, r1⟩ := Dp.reads I _ _ v (dp_pair hb) rx
  rcases hl with hl | hl
  · obtain ⟨bs, r2⟩ := Dp.reads I _ _ u (dp_prsL hl hk) ry
    refine PySem.SeqAt.in_list_reads (xs := (kp ks).map prD) r2 r1 (lay_prs _) rfl (room_pairs hu) ?_
    rw [any_prs]
    exact ⟨.bl _, H, I, rfl, q⟩
  · obtain ⟨bs, r2⟩ := Dp.reads I _ _ u (dp_prs hl hk) ry
    refine PySem.SeqAt.in_tuple_reads (xs := (kp ks).map prD) r2 r1 (lay_prs _) rfl (room_pairs hu) ?_
    rw [any_prs]
    exact ⟨.bl _, H, I, rfl, q⟩
theorem op_notInP (hu : X.A.units + 64 < cLine) : OpR X (compareOp .NotIn) (rInP X.K true) := by
  intro pins s σ H x y v u Q I rx ry h
  obtain ⟨p, b, l, ks, rfl, rfl, hb, hl, hk, q⟩ := h
  obtain ⟨as, r1⟩ := Dp.reads I _ _ v (dp_pair hb) rx
  rcases hl with hl | hl
  · obtain ⟨bs, r2⟩ := Dp.reads I _ _ u (dp_prsL hl hk) ry
    refine PySem.SeqAt.notIn_list_reads (xs := (kp ks).map prD) r2 r1 (lay_prs _) rfl (room_pairs hu) ?_
    rw [any_prs]
    exact ⟨.bl _, H, I, rfl, q⟩
  · obtain ⟨bs, r2⟩ := Dp.reads I _ _ u (dp_prs hl hk) ry
    refine PySem.SeqAt.notIn_tuple_reads (xs := (kp ks).map prD) r2 r1 (lay_prs _) rfl (room_pairs hu) ?_
    rw [any_prs]
    exact ⟨.bl _, H, I, rfl, q⟩
/-! ### a range as a value, walked -/
theorem cr_range1 : CallR X (.type "range") (fun vs H Q => ∃ j : Int, vs = [V.int j] ∧ ∀ p, H p = none → Q (.ref p) (upd H p (.rng 0 j))) := by
  intro pins s σ H vs us Q I r h
  obtain ⟨j, rfl, q⟩ := h
  cases r with
  | cons r rr =>
    cases rr
    obtain ⟨t, rfl⟩ := r
    refine call_range_1 ⟨.ref s.heap.objs.size, upd H s.heap.objs.size (.rng 0 j), I.laid (o := .rng 0 j) (t' := s.toks + 1 + 1) (fun b o e => Heap.get?_push_of_some _ e) (Nat.le_refl _) ?_, rfl, q _ (I.hok.fresh (Nat.le_refl _))⟩
    exact ⟨_, _, _, Heap.get?_push_size _ rfl⟩
def iRngV (te : TE) : TI := fun σ H R => te σ H fun x H1 => ∃ (a : Addr) (lo hi : Int), x = .ref a ∧ H1 a = some (.rng lo hi) ∧ (-(2 ^ 62) ≤ lo ∧ lo < 2 ^ 62 ∧ -(2 ^ 62) ≤ hi ∧ hi < 2 ^ 62) ∧ R (Itr lo (hi - lo).toNat) H1
theorem pi_rngV {tg e : Expr} {te : TE} (he : PE X e te) : PI X tg e (iRngV te) := by
  refine ⟨fun pins s σ H R I h => ?_⟩
  refine thn (he.run pins s σ H _ I h) fun v s1 ⟨x, H1, I1, r1, a, lo, hi, e1, ha, ⟨h1, h2, h3, h4⟩, q⟩ => ?_
  subst e1
  cases r1
  obtain ⟨t, u, w, ho⟩ := (show ∃ t u w, s1.heap.get? a = some { cls := .type "range", data := .fields #[.int lo t, .int hi u, .int 1 w] } from I1.hok a _ ha)
  refine wpAny_pyIter_range (c := 1) ho (small_one h1 h2 h3 h4) ?_
  refine ⟨s1.heap.objs.size, [s1.heap.objs.size], _, _, H1, rfl, I1.kept (t' := s1.toks) fun b o e => Heap.get?_push_of_some _ e, turn_range _ lo (hi - lo).toNat, ?_, fun b hb => ?_, q⟩
  · have e1 : lo + ((0 : Nat) : Int) * 1 = lo := by simp
    have e2 : (((hi - lo).toNat : Nat) : Int) - ((0 : Nat) : Int) = Builtin.Range.rangeSize lo hi 1 := by
      rw [rangeSize_one]
      split <;> omega
    show IsRangeIter _ _ (lo + ((0 : Nat) : Int) * 1) ((((hi - lo).toNat : Nat) : Int) - ((0 : Nat) : Int)) 1
    rw [e1, e2]
    exact Heap.get?_push_size _ rfl
  · obtain rfl : b = s1.heap.objs.size := by simpa using hb
    exact I1.fpOk (Nat.le_refl _) (I1.hok.fresh (Nat.le_refl _))
end
end Ev

namespace Ev
open PySem L2
open C8 (pss_cut tCut InsC)
theorem none_of {H H' : Hp} {x : Addr} (s : Same H H') (n : H' x = none) : H x = none := by
  cases e : H x with
  | none => rfl
  | some o =>
    rw [s _ _ e] at n
    cases n
/-- an ascending row of names -/
structure LotOk (m : Nat) (ls : List Int) : Prop where
  up : ls.Pairwise (· < ·)
  bd : ∀ x ∈ ls, 0 ≤ x ∧ x < m
theorem LotOk.nd {m : Nat} {ls : List Int} (h : LotOk m ls) : ls.Nodup := h.up.imp fun l => by omega
theorem LotOk.len {m : Nat} {ls : List Int} (h : LotOk m ls) : ls.length ≤ m := by
  have l := nat_nodup_len (ls.map Int.toNat) (List.range m) ?_ ?_
  · rwa [List.length_map, List.length_range] at l
  · refine List.pairwise_map.mpr (List.Pairwise.imp_of_mem (fun {a b} ma mb lt q => ?_) h.up)
    have := h.bd a ma
    have := h.bd b mb
    omega
  · intro c hc
    obtain ⟨y, my, rfl⟩ := List.mem_map.mp hc
    rw [List.mem_range]
    have := h.bd y my
    omega
/-! ### filters, item by item -/
theorem flt_yes {α β : Type} {p : α → Bool} {f : α → β} {l : List α} {i : Nat} {x : α} (h : l[i]? = some x) (hp : p x = true) : ((l.take (i + 1)).filter p).map f = ((l.take i).filter p).map f ++ [f x] := by
  rw [take_snoc h, List.filter_append, List.map_append]
  simp [hp]
theorem flt_no {α β : Type} {p : α → Bool} {f : α → β} {l : List α} {i : Nat} {x : α} (h : l[i]? = some x) (hp : p x = false) : ((l.take (i + 1)).filter p).map f = ((l.take i).filter p).map f := by
  rw [take_snoc h, List.filter_append, List.map_append]
  simp [hp]
theorem flt_len {α β : Type} {p : α → Bool} {f : α → β} {l : List α} {i : Nat} : (((l.take i).filter p).map f).length ≤ l.length := by
  rw [List.length_map]
  exact Nat.le_trans (List.length_filter_le _ _) (by rw [List.length_take]; exact Nat.min_le_right _ _)
/-! ### who is ahead, who is behind, what is straight, what is open -/
def ahdL (ps : List Pr) (i : Int) : List Int := (ps.filter fun q => decide (q.2 = i)).map fun q => q.1
def bhdL (ps : List Pr) (i : Int) : List Int := (ps.filter fun q => decide (q.1 = i)).map fun q => q.2
/-- somebody stands between -/
def btw (ps : List Pr) (p : Pr) : Bool := ps.any fun q => decide (q.1 = p.1) && decide ((q.2, p.2) ∈ ps)
def strL (ps : List Pr) : List Pr := ps.filter fun p => !btw ps p
theorem btw_iff {ps : List Pr} {p : Pr} : btw ps p = true ↔ ∃ c, (p.1, c) ∈ ps ∧ (c, p.2) ∈ ps := by
  unfold btw
  rw [List.any_eq_true]
  constructor
  · rintro ⟨⟨a, c⟩, m, h⟩
    rw [Bool.and_eq_true, decide_eq_true_eq, decide_eq_true_eq] at h
    obtain ⟨h1, h2⟩ := h
    have h1 : a = p.1 := h1
    subst h1
    exact ⟨c, m, h2⟩
  · rintro ⟨c, h1, h2⟩
    exact ⟨(p.1, c), h1, by rw [Bool.and_eq_true, decide_eq_true_eq, decide_eq_true_eq]; exact ⟨rfl, h2⟩⟩
/-- all pairs of names, the lesser one first -/
def rowU (m i : Nat) : List Pr := (List.range' (i + 1) (m - (i + 1))).map fun c : Nat => ((i : Int), (c : Int))
def allU (m i : Nat) : List Pr := (List.range i).flatMap (rowU m)
theorem allU_succ (m i : Nat) : allU m (i + 1) = allU m i ++ rowU m i := by
  unfold allU
  rw [List.range_succ, List.flatMap_append, List.flatMap_singleton]
theorem rowU_get {m i j : Nat} (h : j < m - (i + 1)) : (rowU m i)[j]? = some ((i : Int), ((i + 1 + j : Nat) : Int)) := by
  unfold rowU
  rw [List.getElem?_map, List.getElem?_range' h]
  simp
theorem rowU_length (m i : Nat) : (rowU m i).length = m - (i + 1) := by
  unfold rowU
  rw [List.length_map, List.length_range']
theorem allU_length (m : Nat) : ∀ i, (allU m i).length ≤ i * m
  | 0 => Nat.zero_le _
  | i + 1 => by
    rw [allU_succ, List.length_append, Nat.succ_mul, rowU_length]
    have := allU_length m i
    omega
/-- open: neither way round -/
def opn (ps : List Pr) (p : Pr) : Bool := !decide (p ∈ ps) && !decide (swp p ∈ ps)
def opnL (m : Nat) (ps : List Pr) : List Pr := (allU m m).filter (opn ps)
section
variable {P : Program} {w : World} {K : PySem.W.Frag} {mg : Str → Option Value} {base : Heap}
theorem web_bd {C : Addr} {H : Hp} {x : Addr} {m : Nat} {js : Kp} (_ : WebAt K C H x m js) : True := trivial
/-- a web's rows: closed, of names below m, without a ring, not too many -/
structure RowsOk (m : Nat) (ps : List Pr) : Prop where
  ok : UpsOk ps
  bd : In m ps
  asc : asc ps
  tr : ∀ a b c, (a, b) ∈ ps → (b, c) ∈ ps → (a, c) ∈ ps
theorem RowsOk.few {m : Nat} {ps : List Pr} (h : RowsOk m ps) : ps.length < 63 := h.ok.few h.asc
theorem RowsOk.of_cl {m : Nat} {ps qs : List Pr} (h : UpsOk ps) (b : In m ps) (c : Cl ps qs) : RowsOk m qs := ⟨h.tc fun ⟨a, d⟩ m => (c.mem a d).mp m, c.in b, c.asc, fun _ _ _ => c.trans⟩
end
end Ev

namespace Ev
open PySem PySem.Spec PyProof.Rows L2
/-- ints as data -/
def intD (l : List Int) : PyData := .tuple (l.map .int)
theorem eqv_ints : ∀ l : List Int, PyData.eqvAll (l.map .int) (l.map .int) = true
  | [] => rfl
  | i :: l => by
    simp only [List.map_cons, PyData.eqvAll, PyData.eqv, eqv_ints l, beq_self_eq_true, Bool.and_self]
theorem eqv_intD (l : List Int) : PyData.eqv (intD l) (intD l) = true := by
  unfold intD
  simp only [PyData.eqv]
  exact eqv_ints l
theorem lay_ints : ∀ l : List Int, PyData.canLayAll0 (l.map .int) = true ∧ PyData.depthAll (l.map .int) = 0
  | [] => ⟨rfl, rfl⟩
  | i :: l => by
    obtain ⟨h1, h2⟩ := lay_ints l
    simp only [List.map_cons, PyData.canLayAll0, PyData.depthAll, h1, h2, Bool.and_true]
    exact ⟨rfl, rfl⟩
theorem shaped_intD (l : List Int) : SeqAt.shaped (intD l) = true := by
  obtain ⟨h1, h2⟩ := lay_ints l
  have c : (intD l).canLay0 = true := h1
  have e : (intD l).depth = PyData.depthAll (l.map .int) + 1 := rfl
  unfold SeqAt.shaped
  rw [c, Bool.true_and]
  exact decide_eq_true (by omega)
theorem dp_ints {K : PySem.W.Frag} {H : Hp} : ∀ l : List Int, DpAll K H (l.map V.int) (l.map .int)
  | [] => .nil
  | i :: l => .cons (.int i) (dp_ints l)
theorem dp_intD {K : PySem.W.Frag} {H : Hp} {z : Addr} {l : List Int} (h : SqT K H z (l.map V.int)) : Dp K H (.ref z) (intD l) := .tup h (dp_ints l)
def intL (l : List Int) : PyData := .list (l.map .int)
theorem eqvAll_ints : ∀ l k : List Int, PyData.eqvAll (l.map .int) (k.map .int) = decide (l = k)
  | [], [] => rfl
  | [], _ :: _ => rfl
  | _ :: _, [] => rfl
  | i :: l, j :: k => by
    simp only [List.map_cons, PyData.eqvAll, PyData.eqv, eqvAll_ints l k]
    by_cases e : i = j
    · subst e
      by_cases e2 : l = k <;> simp [e2]
    · simp [e]
theorem eqv_intDG (l k : List Int) : PyData.eqv (intD l) (intD k) = decide (l = k) := by
  unfold intD
  simp only [PyData.eqv]
  exact eqvAll_ints l k
theorem eqv_intLG (l k : List Int) : PyData.eqv (intL l) (intL k) = decide (l = k) := by
  unfold intL
  simp only [PyData.eqv]
  exact eqvAll_ints l k
theorem shaped_intL (l : List Int) : SeqAt.shaped (intL l) = true := by
  obtain ⟨h1, h2⟩ := lay_ints l
  have c : (intL l).canLay0 = true := h1
  have e : (intL l).depth = PyData.depthAll (l.map .int) + 1 := rfl
  unfold SeqAt.shaped
  rw [c, Bool.true_and]
  exact decide_eq_true (by omega)
theorem dp_intL {K : PySem.W.Frag} {H : Hp} {z : Addr} {l : List Int} (h : SqL K H z (l.map V.int)) : Dp K H (.ref z) (intL l) := .lst h (dp_ints l)
/-! ### ascending rows of ints -/
theorem up_lo : ∀ {l : List Int} {lo : Int}, l.Pairwise (· < ·) → (∀ x ∈ l, lo ≤ x) → ∀ i (h : i < l.length), lo + i ≤ l[i]
  | [], _, _, _, i, h => absurd h (Nat.not_lt_zero _)
  | x :: l, lo, p, b, 0, h => by
    have := b x List.mem_cons_self
    simpa using this
  | x :: l, lo, p, b, i + 1, h => by
    have p1 := List.pairwise_cons.mp p
    have b0 := b x List.mem_cons_self
    have := up_lo (lo := lo + 1) p1.2 (fun y m => by have := p1.1 y m; omega) i (by simpa using h)
    simp only [List.getElem_cons_succ]
    omega
theorem up_hi : ∀ {l : List Int} {hi : Int}, l.Pairwise (· < ·) → (∀ x ∈ l, x < hi) → ∀ i (h : i < l.length), l[i] + (l.length - i : Int) ≤ hi
  | [], _, _, _, i, h => absurd h (Nat.not_lt_zero _)
  | [x], hi, p, b, 0, h => by
    have := b x List.mem_cons_self
    simp only [List.getElem_cons_zero, List.length_singleton]
    omega
  | x :: y :: l, hi, p, b, 0, h => by
    have p1 := List.pairwise_cons.mp p
    have h1 := p1.1 y List.mem_cons_self
    have h2 := up_hi p1.2 (fun z m => b z (List.mem_cons_of_mem _ m)) 0 (by simp)
    simp only [List.getElem_cons_zero, List.length_cons] at h2 ⊢
    omega
  | x :: l, hi, p, b, i + 1, h => by
    have h2 := up_hi (List.pairwise_cons.mp p).2 (fun z m => b z (List.mem_cons_of_mem _ m)) i (by simpa using h)
    simp only [List.getElem_cons_succ, List.length_cons] at h2 ⊢
    omega
/-- the names below m -/
def upto (m : Nat) : List Int := (List.range m).map fun i : Nat => (i : Int)
theorem upto_length (m : Nat) : (upto m).length = m := by
  unfold upto
  rw [List.length_map, List.length_range]
theorem upto_get {m i : Nat} (h : i < m) : (upto m)[i]? = some (i : Int) := by
  unfold upto
  rw [List.getElem?_map, List.getElem?_range h]
  rfl
theorem mem_upto {m : Nat} {x : Int} : x ∈ upto m ↔ 0 ≤ x ∧ x < m := by
  unfold upto
  rw [List.mem_map]
  constructor
  · rintro ⟨i, h, rfl⟩
    have := List.mem_range.mp h
    omega
  · rintro ⟨h0, h1⟩
    exact ⟨x.toNat, List.mem_range.mpr (by omega), by omega⟩
theorem upto_asc (m : Nat) : (upto m).Pairwise (· < ·) := by
  unfold upto
  rw [List.pairwise_map]
  exact List.pairwise_lt_range.imp fun h => by omega
theorem upto_eq {m : Nat} {l : List Int} (p : l.Pairwise (· < ·)) (b : ∀ x ∈ l, 0 ≤ x ∧ x < m) (hl : l.length = m) : l = upto m := by
  refine List.ext_getElem (by rw [hl, upto_length]) fun i h1 h2 => ?_
  have a1 := up_lo p (fun x mx => (b x mx).1) i h1
  have a2 := up_hi p (fun x mx => (b x mx).2) i h1
  have a3 := upto_get (m := m) (i := i) (by omega)
  obtain ⟨_, a3⟩ := List.getElem?_eq_some_iff.mp a3
  rw [a3]
  omega
theorem rgV_upto (m : Nat) : rgV 0 m = (upto m).map V.int := by
  unfold rgV upto
  rw [List.map_map, show ((m : Int) - 0).toNat = m by omega]
  refine List.map_congr_left fun i _ => ?_
  show V.int (0 + (i : Int)) = V.int i
  rw [Int.zero_add]
end Ev

namespace Ev
open PySem L2
/-! ### lots as bits -/
def nb (ls : List Int) : Nat := (ls.map fun a => 2 ^ a.toNat).sum
theorem nb_snoc (ls : List Int) (a : Int) : nb (ls ++ [a]) = nb ls + 2 ^ a.toNat := by
  unfold nb
  rw [List.map_append, List.sum_append]
  simp
theorem nb_rev : ∀ (l : List Int), l.reverse.Pairwise (· < ·) → (∀ x ∈ l, 0 ≤ x) → (∀ m : Nat, (∀ x ∈ l, x < m) → nb l.reverse < 2 ^ m) ∧ ∀ k : Nat, (nb l.reverse).testBit k = decide ((k : Int) ∈ l)
  | [], _, _ => ⟨fun m _ => Nat.two_pow_pos m, fun k => by simp [nb]⟩
  | a :: l, p, h0 => by
    rw [List.reverse_cons] at p ⊢
    have p1 := List.pairwise_append.mp p
    have a0 := h0 a List.mem_cons_self
    have ih := nb_rev l p1.1 fun x mx => h0 x (List.mem_cons_of_mem _ mx)
    have lt : nb l.reverse < 2 ^ a.toNat := ih.1 a.toNat fun x mx => by
      have := p1.2.2 x (List.mem_reverse.mpr mx) a List.mem_cons_self
      omega
    have eo := Nat.two_pow_add_eq_or_of_lt lt 1
    rw [Nat.mul_one] at eo
    rw [nb_snoc, Nat.add_comm, eo]
    constructor
    · intro m hm
      have ha := hm a List.mem_cons_self
      have e1 : 2 ^ a.toNat < 2 ^ m := Nat.pow_lt_pow_right (by decide) (by omega)
      exact Nat.or_lt_two_pow e1 (Nat.lt_trans lt e1)
    · intro k
      rw [Nat.testBit_or, Nat.testBit_two_pow, ih.2 k]
      by_cases e : a.toNat = k
      · rw [decide_eq_true e, Bool.true_or]
        exact (decide_eq_true (by rw [show (k : Int) = a by omega]; exact List.mem_cons_self)).symm
      · rw [decide_eq_false e, Bool.false_or]
        refine decide_eq_decide.mpr ⟨fun m => List.mem_cons_of_mem _ m, fun m => ?_⟩
        rcases List.mem_cons.mp m with q | m
        · omega
        · exact m
theorem nb_lt {ls : List Int} {m : Nat} (p : ls.Pairwise (· < ·)) (b : ∀ x ∈ ls, 0 ≤ x ∧ x < m) : nb ls < 2 ^ m := by
  have h := (nb_rev ls.reverse (by rwa [List.reverse_reverse]) fun x mx => (b x (List.mem_reverse.mp mx)).1).1 m fun x mx => (b x (List.mem_reverse.mp mx)).2
  rwa [List.reverse_reverse] at h
theorem nb_bit {ls : List Int} (p : ls.Pairwise (· < ·)) (b : ∀ x ∈ ls, 0 ≤ x) (k : Nat) : (nb ls).testBit k = decide ((k : Int) ∈ ls) := by
  have h := (nb_rev ls.reverse (by rwa [List.reverse_reverse]) fun x mx => b x (List.mem_reverse.mp mx)).2 k
  rw [List.reverse_reverse] at h
  rw [h]
  exact decide_eq_decide.mpr List.mem_reverse
/-- the names of a lot, by its bits -/
def lotI (m n : Nat) : List Int := (bitsOf m n).map fun k : Nat => (k : Int)
theorem mem_bitsOf {m n k : Nat} : k ∈ bitsOf m n ↔ k < m ∧ n.testBit k = true := by
  unfold bitsOf
  rw [List.mem_filter, List.mem_range]
theorem mem_lotI {m n : Nat} {a : Int} : a ∈ lotI m n ↔ 0 ≤ a ∧ a < m ∧ n.testBit a.toNat = true := by
  unfold lotI
  rw [List.mem_map]
  constructor
  · rintro ⟨k, mk, rfl⟩
    have h := mem_bitsOf.mp mk
    exact ⟨by omega, by omega, h.2⟩
  · rintro ⟨h0, h1, h2⟩
    exact ⟨a.toNat, mem_bitsOf.mpr ⟨by omega, h2⟩, by omega⟩
theorem lotI_up (m n : Nat) : (lotI m n).Pairwise (· < ·) := by
  unfold lotI bitsOf
  rw [List.pairwise_map]
  exact (List.Pairwise.filter _ List.pairwise_lt_range).imp fun h => by omega
theorem up_eq {xs ys : List Int} (h1 : xs.Pairwise (· < ·)) (h2 : ys.Pairwise (· < ·)) (h : ∀ a, a ∈ xs ↔ a ∈ ys) : xs = ys :=
  List.Perm.eq_of_pairwise (le := fun a b : Int => a < b) (fun a b _ _ x y => by omega) h1 h2 ((List.perm_ext_iff_of_nodup (h1.imp fun l e => by omega) (h2.imp fun l e => by omega)).mpr h)
theorem nb_lotI {m n : Nat} (h : n < 2 ^ m) : nb (lotI m n) = n := by
  refine Nat.eq_of_testBit_eq fun k => ?_
  rw [nb_bit (lotI_up m n) (fun x mx => (mem_lotI.mp mx).1)]
  cases e : n.testBit k with
  | false =>
    refine decide_eq_false fun q => ?_
    have := (mem_lotI.mp q).2.2
    rw [Int.toNat_natCast, e] at this
    cases this
  | true =>
    refine decide_eq_true (mem_lotI.mpr ⟨by omega, ?_, by rw [Int.toNat_natCast]; exact e⟩)
    by_cases l : k < m
    · omega
    · have := Nat.testBit_lt_two_pow (x := n) (i := k) (Nat.lt_of_lt_of_le h (Nat.pow_le_pow_right (by decide) (by omega)))
      rw [e] at this
      cases this
theorem lotI_nb {m : Nat} {ls : List Int} (p : ls.Pairwise (· < ·)) (b : ∀ x ∈ ls, 0 ≤ x ∧ x < m) : lotI m (nb ls) = ls := by
  refine up_eq (lotI_up _ _) p fun a => ?_
  rw [mem_lotI]
  constructor
  · rintro ⟨h0, h1, h2⟩
    rw [nb_bit p (fun x mx => (b x mx).1), decide_eq_true_eq, show ((a.toNat : Nat) : Int) = a by omega] at h2
    exact h2
  · intro m
    have := b a m
    refine ⟨this.1, this.2, ?_⟩
    rw [nb_bit p (fun x mx => (b x mx).1), decide_eq_true_eq, show ((a.toNat : Nat) : Int) = a by omega]
    exact m
/-! ### needs -/
/-- for each name the bits of those ahead of it -/
structure Needs (m : Nat) (ps : List Pr) (bs : List Nat) : Prop where
  len : bs.length = m
  mx : ∀ c a, Mx bs c a ↔ (a, c) ∈ ps
theorem and_eq_iff {x n : Nat} : x &&& n = x ↔ ∀ i, x.testBit i = true → n.testBit i = true := by
  constructor
  · intro h i hi
    rw [← h, Nat.testBit_and, Bool.and_eq_true] at hi
    exact hi.2
  · intro h
    refine Nat.eq_of_testBit_eq fun i => ?_
    rw [Nat.testBit_and]
    cases e : x.testBit i with
    | false => rfl
    | true => rw [h i e]; rfl
def hasB (bs : List Nat) (n k : Nat) : Bool := decide ((bs.getD k 0) &&& n = bs.getD k 0)
theorem hasB_iff {m : Nat} {ps : List Pr} {bs : List Nat} (N : Needs m ps bs) (bd : In m ps) {n k : Nat} : hasB bs n k = true ↔ ∀ a : Int, (a, (k : Int)) ∈ ps → n.testBit a.toNat = true := by
  unfold hasB
  rw [decide_eq_true_eq, and_eq_iff]
  constructor
  · intro h a ma
    have x := (N.mx k a).mpr ma
    have := x.2.2
    rw [Int.toNat_natCast] at this
    exact h _ this
  · intro h i hi
    have x : Mx bs (k : Int) (i : Int) := ⟨by omega, by omega, by rw [Int.toNat_natCast, Int.toNat_natCast]; exact hi⟩
    have := h _ ((N.mx _ _).mp x)
    rwa [Int.toNat_natCast] at this
def closedB (bs : List Nat) (n : Nat) : Bool := (bitsOf bs.length n).all (hasB bs n)
theorem closedB_iff {m : Nat} {ps : List Pr} {bs : List Nat} (N : Needs m ps bs) (bd : In m ps) {n : Nat} : closedB bs n = true ↔ ∀ a c : Int, (a, c) ∈ ps → n.testBit c.toNat = true → n.testBit a.toNat = true := by
  unfold closedB
  rw [List.all_eq_true]
  constructor
  · intro h a c mp hc
    have b := bd _ mp
    simp only at b
    have k : c.toNat ∈ bitsOf bs.length n := mem_bitsOf.mpr ⟨by rw [N.len]; omega, hc⟩
    refine (hasB_iff N bd).mp (h _ k) a ?_
    rw [show ((c.toNat : Nat) : Int) = c by omega]
    exact mp
  · intro h k mk
    have hk := mem_bitsOf.mp mk
    exact (hasB_iff N bd).mpr fun a ma => h a k ma (by rw [Int.toNat_natCast]; exact hk.2)
def closedL (bs : List Nat) : List Nat := (List.range (2 ^ bs.length)).filter (closedB bs)
def freeB (bs : List Nat) (n k : Nat) : Bool := !n.testBit k && hasB bs n k
def comersL (bs : List Nat) (n : Nat) : List Nat := (List.range bs.length).filter (freeB bs n)
/-! ### operators of naturals -/
def rAndN : R2 := fun x y H Q => ∃ n k : Nat, x = .int (n : Int) ∧ y = .int (k : Int) ∧ Q (.int ((n &&& k : Nat) : Int)) H
def rOrN : R2 := fun x y H Q => ∃ n k : Nat, x = .int (n : Int) ∧ y = .int (k : Int) ∧ Q (.int ((n ||| k : Nat) : Int)) H
section
variable {X : Cx}
theorem and_nat (b c : Nat) : Builtin.bitAnd (b : Int) (c : Int) = ((b &&& c : Nat) : Int) := by
  rw [PyProof.Rows.bitAnd_pp (by omega) (by omega), Int.toNat_natCast, Int.toNat_natCast]
theorem op_andNN : OpR X (binaryOp .BitAnd) rAndN := by
  intro pins s σ H x y v u Q I rx ry h
  obtain ⟨n, k, rfl, rfl, q⟩ := h
  refine op_and pins s σ H _ _ v u Q I rx ry ⟨n, k, rfl, rfl, ?_⟩
  dsimp only
  rw [and_nat]
  exact q
theorem op_orNN : OpR X (binaryOp .BitOr) rOrN := by
  intro pins s σ H x y v u Q I rx ry h
  obtain ⟨n, k, rfl, rfl, q⟩ := h
  refine op_or pins s σ H _ _ v u Q I rx ry ⟨n, k, rfl, rfl, ?_⟩
  dsimp only
  rw [Bits.bitOr_pp (by omega) (by omega), Int.toNat_natCast, Int.toNat_natCast]
  exact q
end
end Ev

namespace Ev
open PySem PySem.Spec PyProof.Rows PySem.SeqAt PySem.W Srt SrtO
section
variable {prog : Program} {w : World} {A : Around} {E : Value → Shared → Prop} {s : Shared}
/-- the call of a tuple's own __lt__, as sorting makes it -/
theorem own_lt {Q : Value → Shared → Prop} {l b : Addr} {items items2 : Array Value} {e r : Nat → Bool} (hl : s.heap.IsTuple l items) (hb : s.heap.IsTuple b items2)
    (he : ∀ j (h1 : j < items.size) (h2 : j < items2.size), EqAt A.in1 s items[j] items2[j] (e j)) (hr : ∀ j (h1 : j < items.size) (h2 : j < items2.size), e j = false → RcLt A.in1 s items[j] items2[j] (r j))
    (h : Q (.bool (firstLt e r (decide (items.size < items2.size)) (List.range (min items.size items2.size)))) s) : wpAny (model prog w) A (call (.builtin "tuple.__lt__") [.ref l, .ref b]) Q E s := by
  obtain ⟨⟨cls, dd, data, sl⟩, ho, hc, n, hd⟩ := id hl
  obtain ⟨⟨cls2, dd2, data2, sl2⟩, ho2, hc2, n2, hd2⟩ := id hb
  simp only at hc hd hc2 hd2
  subst hc hd hc2 hd2
  exact call_meets F.slot_tuple_lt ⟨_, ho, rfl⟩ F.entry_tuple_lt (F.args_tuple_lt_2 _ _) (tuple_ltAt l b items items2 n n2 dd dd2 sl sl2 e r) ⟨ho, ho2, he, hr, h⟩
/-- v is a tuple of the ints ns -/
def IsTI (h : Heap) (v : Value) (ns : List Int) : Prop := ∃ a its, v = .ref a ∧ h.IsTuple a its ∧ IntsAre its.toList ns
theorem IsTI.keeps {h h' : Heap} {v : Value} {ns : List Int} (x : IsTI h v ns) (k : ∀ b o, h.get? b = some o → o.cls = .type "tuple" → h'.get? b = some o) : IsTI h' v ns := by
  obtain ⟨a, its, rfl, ⟨o, ho, hc, n, hd⟩, hi⟩ := x
  exact ⟨a, its, rfl, ⟨o, k _ _ ho hc, hc, n, hd⟩, hi⟩
theorem reads_ti {h : Heap} {v : Value} {ns : List Int} (x : IsTI h v ns) : ∃ as, Reads h v (.tuple (ns.map .int)) as := by
  obtain ⟨a, its, rfl, ⟨o, ho, hc, n, hd⟩, hi⟩ := x
  have all : ∀ {vs : List Value} {ns : List Int}, IntsAre vs ns → ∃ as, ReadsAll h vs (ns.map PyData.int) as := by
    intro vs ns q
    induction q with
    | nil => exact ⟨_, ReadsAll.nil⟩
    | cons n t r ih =>
      obtain ⟨as, q⟩ := ih
      exact ⟨_, ReadsAll.cons (Reads.int n t) q⟩
  obtain ⟨as, q⟩ := all hi
  exact ⟨_, Reads.tuple ho hc hd q⟩
theorem lt_rows (x y : List Int) : dataLt (.tuple (x.map .int)) (.tuple (y.map .int)) = decide (x < y) := by
  rw [dataLt_tuple]
  exact dataLt_ints x y
theorem alike_rows (x y : List Int) : alike (.tuple (x.map .int)) (.tuple (y.map .int)) = true := by
  simp only [alike]
  exact alike_ints x y
theorem oneLt_ti {f : Bool} {v u : Value} {ns ms : List Int} {Q : Bool → Shared → Prop} (x : IsTI s.heap v ns) (y : IsTI s.heap u ms) (hu : A.units + 1 < cLine) (hq : Q (decide (ns < ms)) s) : wpAny (model prog w) A (oneLt' f v u) Q E s := by
  obtain ⟨as, ra⟩ := reads_ti x
  obtain ⟨bs, rb⟩ := reads_ti y
  have hal := alike_rows ns ms
  have d1 : ∀ l : List Int, (PyData.tuple (l.map .int)).depth = 1 := fun l => by
    show PyData.depthAll (l.map .int) + 1 = 1
    rw [(lay_ints l).2]
  have hd : A.units + min (PyData.tuple (ns.map .int)).depth (PyData.tuple (ms.map .int)).depth < cLine := by
    rw [d1, d1]
    exact hu
  rw [← lt_rows] at hq
  cases f with
  | false => exact oneLt_alike (fun h => absurd h Bool.false_ne_true) ra rb hal nofun hd hq
  | true =>
    have hal : alikeAll (ns.map .int) (ms.map .int) = true := alike_ints ns ms
    cases ra with
    | @tuple l o vs n _ as₁ h1 h2 h3 h4 =>
      cases rb with
      | @tuple l' o' vs' n' _ bs₁ k1 k2 k3 k4 =>
        have n1 : vs.size = (ns.map PyData.int).length := by simpa using ReadsAll.length _ _ _ h4
        have n2 : vs'.size = (ms.map PyData.int).length := by simpa using ReadsAll.length _ _ _ k4
        rw [dataLt_tuple, ← firstLt_toks _ _ hal, ← n1, ← n2] at hq
        rw [oneLt'_eq]
        simp only [if_true]
        refine wpAny_bind (wpAny_cRoomFor (room_here hd) ?_)
        refine wpAny_bind (wpAny_callSpecialIfBound?_slot (T := "tuple") ⟨_, h1, h2⟩ F.slot_tuple_lt (own_lt (e := pairEq (ns.map .int) (ms.map .int)) (r := fun j => dataLt ((ns.map PyData.int).getD j .none) ((ms.map PyData.int).getD j .none)) ⟨_, h1, h2, _, h3⟩ ⟨_, k1, k2, _, k3⟩ (fun j j1 j2 => ?_) (fun j j1 j2 hj => ?_) ?_))
        · have := eqAt_alikeAll _ _ A.in1 s vs.toList vs'.toList _ _ h4 k4 hal (room_in hd) j (by simpa using j1) (by simpa using j2)
          simpa using this
        · have := rcLt_alikeAll _ _ A.in1 s vs.toList vs'.toList _ _ h4 k4 hal (room_in hd) j (by simpa using j1) (by simpa using j2) hj
          simpa using this
        · exact wpAny_truthy_bool hq
theorem keyLt_gen (x y : Value) : keyLt' general' x y = oneLt' false x y := rfl
theorem kas_firsts {k : Value → List Int} : ∀ (vs : List Value) {Q : List (Option Value) → Shared → Prop}, (∀ v ∈ vs, IsTI s.heap v (k v)) →
    (∀ fs : List (Option Value), fs.length = vs.length → (∀ (i : Nat) (v : Value), vs[i]? = some v → ∃ f : Option Value, fs[i]? = some f ∧ (f.isSome = !(k v).isEmpty)) → Q fs s) → wpAny (model prog w) A (vs.mapM firstOfTuple') Q E s
  | [], _, _, h => by
    rw [List.mapM_nil]
    exact wpAny_pure (h [] rfl (fun i v e => by cases e))
  | v :: vs, Q, hk, h => by
    obtain ⟨a, its, ev, ⟨o, ho, hc, n, hd⟩, hi⟩ := hk v List.mem_cons_self
    rw [List.mapM_cons]
    refine wpAny_bind ?_
    rw [kas_first_eq, ev]
    refine wpAny_bind (Looks.here (show Looks (model prog w) s.heap (typeOf (.ref a)) o.cls from (Looks.ld ho).andThen .now) ?_)
    rw [hc, if_neg (by first | decide | simp)]
    refine wpAny_bind (listItems_at ho hd (wpAny_pure ?_))
    refine wpAny_bind (kas_firsts (k := k) vs (fun u m => hk u (List.mem_cons_of_mem _ m)) fun fs hl hf => wpAny_pure ?_)
    refine h (its[0]? :: fs) (by rw [List.length_cons, List.length_cons, hl]) fun i u e => ?_
    cases i with
    | zero =>
      have e : v = u := Option.some.inj e
      subst e
      refine ⟨its[0]?, rfl, ?_⟩
      have hz := hi.length
      cases q : k v with
      | nil =>
        rw [q] at hz
        have : its.size = 0 := by simpa using hz
        rw [Array.getElem?_eq_none (by omega)]
        rfl
      | cons c r =>
        rw [q] at hz
        have : its.size = r.length + 1 := by simpa using hz
        rw [Array.getElem?_eq_getElem (by omega)]
        rfl
    | succ i => exact hf i u e
/-- tuples of ints, an empty one among them, as sorting takes them -/
theorem rows_sortable {a : Addr} {vs : List Value} {k : Value → List Int} (hu : A.units + 1 < cLine) (hp : ∀ v ∈ vs, IsTI s.heap v (k v)) (he : ∃ v ∈ vs, k v = []) (ha : ∀ o, s.heap.get? a = some o → o.cls ≠ .type "tuple") :
    SortableO prog w A s a vs fun v u => decide (k v < k u) := by
  intro h' keep
  have hp' : ∀ v ∈ vs, IsTI h' v (k v) := fun v hm => (hp v hm).keeps fun b o e c => keep b o (fun z => by subst z; exact ha o e c) e
  obtain ⟨v0, m0, e0⟩ := he
  obtain ⟨i0, g0⟩ := List.getElem?_of_mem m0
  obtain ⟨v1, rest, rfl⟩ : ∃ v1 rest, vs = v1 :: rest := by
    cases vs with
    | nil => cases m0
    | cons v1 rest => exact ⟨v1, rest, rfl⟩
  have cmp : ∀ f, ∀ p q : Keyed, p.1 ∈ v1 :: rest → q.1 ∈ v1 :: rest → wpAny (model prog w) A (oneLt' f p.1 q.1) (fun r s' => s' = { s with heap := h' } ∧ r = decide (k p.1 < k q.1)) (fun _ _ => False) { s with heap := h' } :=
    fun f p q hm hm' => oneLt_ti (s := { s with heap := h' }) (hp' _ hm) (hp' _ hm') hu ⟨rfl, rfl⟩
  have kind : ∀ (κ : SortKind) (Q : SortKind → Shared → Prop) (E : Value → Shared → Prop), κ = (if (k v1).isEmpty = true then oneType' else general') → Q κ { s with heap := h' } → wpAny (model prog w) A (keyKind' (v1 :: rest).toArray) Q E { s with heap := h' } := by
    intro κ Q E ek hq
    rw [keyKind'_eq, List.mapM_toArray, map_eq_pure_bind]
    refine wpAny_bind (wpAny_bind (kas_firsts (s := { s with heap := h' }) (k := k) _ hp' fun fs hl hf => wpAny_pure ?_))
    obtain ⟨f0, gf0, hf0⟩ := hf i0 v0 g0
    have no : (fs.toArray.all fun x => x.isSome) = false := by
      rw [List.all_toArray, List.all_eq_false]
      refine ⟨f0, List.mem_of_getElem? gf0, ?_⟩
      rw [hf0, e0]
      decide
    rw [if_neg (by rw [no]; exact Bool.false_ne_true)]
    obtain ⟨f1, gf1, hf1⟩ := hf 0 v1 rfl
    have g1 : (fs.toArray[0]?.bind id).isSome = !(k v1).isEmpty := by
      rw [List.getElem?_toArray, gf1]
      exact hf1
    rw [g1]
    cases q : (k v1).isEmpty with
    | false =>
      rw [q] at ek
      rw [if_pos (by decide)]
      rw [ek, if_neg (by decide)] at hq
      exact wpAny_pure hq
    | true =>
      rw [q] at ek
      rw [if_neg (by decide)]
      rw [ek, if_pos rfl] at hq
      rw [oneTypeOnly'_eq, List.mapM_toArray, map_eq_pure_bind]
      refine wpAny_bind (wpAny_bind (wpAny_bind (kas_mapM (r := Value.type "tuple") _ (fun v hv Q' hq' => ?_) (wpAny_pure ?_))))
      · obtain ⟨a, its, ev, ⟨o, ho, hc, n, hd⟩, hi⟩ := hp' v hv
        rw [ev]
        exact wpAny_typeOf (T := "tuple") ⟨o, ho, hc⟩ hq'
      · have hall : ((List.map (fun _ => Value.type "tuple") (v1 :: rest)).toArray.all fun x => x == Value.type "tuple") = true := by
          simp only [List.all_toArray, List.all_map, List.all_eq_true]
          intro _ _
          rfl
        have h0 : (List.map (fun _ => Value.type "tuple") (v1 :: rest)).toArray[0]? = some (Value.type "tuple") := by simp
        rw [h0]
        simp only [hall, if_true]
        exact wpAny_pure (wpAny_pure hq)
  by_cases q : (k v1).isEmpty = true
  · refine ⟨oneType', fun Q E hq => kind _ Q E (by rw [if_pos q]) hq, fun p q hm hm' => ?_⟩
    show wpAny (model prog w) A (keyLt' oneType' p.1 q.1) _ _ _
    rw [keyLt'_oneType]
    exact cmp true p q hm hm'
  · refine ⟨general', fun Q E hq => kind _ Q E (by rw [if_neg q]) hq, fun p q hm hm' => ?_⟩
    show wpAny (model prog w) A (keyLt' general' p.1 q.1) _ _ _
    rw [keyLt_gen]
    exact cmp false p q hm hm'
end
end Ev
namespace Ev
open PySem PySem.Spec PyProof.Rows L2
/-! ### sorted, of tuples of ints, an empty one among them -/
abbrev Lp := List (Addr × List Int)
def lvv (ks : Lp) : List V := ks.map fun k => V.ref k.1
def lvp (ks : Lp) : List (List Int) := ks.map (·.2)
def LpAt (K : PySem.W.Frag) (H : Hp) (ks : Lp) : Prop := ∀ k ∈ ks, SqT K H k.1 (k.2.map V.int)
def rSortRows (K : PySem.W.Frag) : List V → Hp → VK → Prop := fun vs H Q => ∃ (l : Addr) (ks : Lp), vs = [.ref l] ∧ SqL K H l (lvv ks) ∧ LpAt K H ks ∧ (∃ k ∈ ks, k.2 = []) ∧
  ∀ (js : Lp) (p : Addr), js.Perm ks → (lvp js).Pairwise (fun x y => ¬ y < x) → H p = none → Q (.ref p) (upd H p (.lst (lvv js)))
section
variable {X : Cx}
theorem swo_rows (k : Value → List Int) : SrtO.Swo fun v u => decide (k v < k u) := by
  refine ⟨fun x y h => ?_, fun x y z h1 h2 => ?_⟩
  · exact decide_eq_false (List.lt_asymm (of_decide_eq_true h))
  · have a : k x ≤ k y := List.not_lt.mp (of_decide_eq_false h1)
    have b : k y ≤ k z := List.not_lt.mp (of_decide_eq_false h2)
    exact decide_eq_false (List.not_lt.mpr (List.le_trans a b))
open Classical in
/-- the ints of a tuple, by where it stands -/
noncomputable def rowAt (ks : Lp) (v : Value) : List Int := match v with
  | .ref a => (((ks.find? fun k => decide (k.1 = a)).map (·.2)).getD [])
  | _ => []
theorem rowAt_of {ks : Lp} {k : Addr × List Int} (m : k ∈ ks) (u : ∀ j ∈ ks, j.1 = k.1 → j.2 = k.2) : rowAt ks (.ref k.1) = k.2 := by
  show (((ks.find? fun j => decide (j.1 = k.1)).map (·.2)).getD []) = k.2
  cases e : ks.find? fun j => decide (j.1 = k.1) with
  | none =>
    have := List.find?_eq_none.mp e k m
    exact absurd (decide_eq_true rfl) this
  | some j => exact u j (List.mem_of_find?_eq_some e) (of_decide_eq_true (List.find?_some (p := fun j : Addr × List Int => decide (j.1 = k.1)) e))
theorem ints_inj {ns ms : List Int} (h : ns.map V.int = ms.map V.int) : ns = ms := by
  have e := congrArg (List.map fun v : V => match v with | .int i => i | _ => 0) h
  rw [List.map_map, List.map_map] at e
  have i : ∀ l : List Int, l.map ((fun v : V => match v with | .int i => i | _ => 0) ∘ V.int) = l := fun l => by
    conv => rhs; rw [← List.map_id l]
    rfl
  rwa [i, i] at e
theorem cr_sortRows (hu : X.A.units + 64 < cLine) : CallR X (.builtin "sorted") (rSortRows X.K) := by
  intro pins s σ H vs us Q I r h
  obtain ⟨l, ks, rfl, hl, hk, ⟨k0, m0, e0⟩, q⟩ := h
  obtain ⟨its, rv, pl, hz⟩ := I.list hl
  have ei : its = ks.map fun p => Value.ref p.1 := refs_of_vals rv
  subst ei
  rw [Vals.ref1 r]
  have row : ∀ k ∈ ks, rowAt ks (.ref k.1) = k.2 := fun k m => rowAt_of m fun j mj e => by
    have h1 := hk j mj
    rw [e] at h1
    exact ints_inj (I.tuple_inj h1 (hk k m))
  have ti : ∀ v ∈ ks.map (fun p => Value.ref p.1), IsTI s.heap v (rowAt ks v) := fun v mv => by
    obtain ⟨k, mk, rfl⟩ := List.mem_map.mp mv
    rw [row k mk]
    obtain ⟨its, r2, p2, _⟩ := I.tuple (hk k mk)
    exact ⟨k.1, its.toArray, rfl, p2, by simpa using r2.ints⟩
  refine SrtO.sorted_ord (swo_rows (rowAt ks)) pl.isList (by rw [← rv.length]; exact hz) (fun h2 h₁ a ha kk => ?_) fun out h1 h2 => ?_
  · refine rows_sortable (s := { s with heap := h₁ }) ?_ (fun v mv => (ti v mv).keeps fun b o e _ => (kk b o e).2) ⟨_, List.mem_map_of_mem m0, by rw [row k0 m0]; exact e0⟩ fun o e => ?_
    · show X.A.units + 1 + 1 + 1 < cLine
      omega
    · have e' : some o = some (seqObj "list" _ 0) := e.symm.trans ha
      cases e'
      intro c
      exact absurd (Value.type.inj c) (by decide)
  · obtain ⟨js, pj, rfl⟩ := perm_map _ h2.perm
    obtain ⟨ep, he'⟩ := PyProof.Rows.sortedAll_at s.heap (ks.map fun p => Value.ref p.1) (js.map fun p => Value.ref p.1).toArray
    have hlen : (lvv js).length ≤ sizeLine := by
      unfold lvv
      rw [List.length_map, pj.length_eq]
      unfold lvv at hz
      rwa [List.length_map] at hz
    refine ⟨.ref _, upd H (s.heap.objs.size + 1) (.lst (lvv js)), I.laid (t' := s.toks) (fun _ _ => PyProof.Rows.sortedAll_old) (Nat.le_succ _) ⟨hlen, _, ep, vals_of_refs js, he'⟩, rfl, q js _ pj ?_ (I.hok.fresh (Nat.le_succ _))⟩
    have h3 : (js.map fun p => Value.ref p.1).Pairwise (fun x y => decide (rowAt ks y < rowAt ks x) = false) := h1
    unfold lvp
    rw [List.pairwise_map] at h3 ⊢
    refine List.Pairwise.imp_of_mem (fun {x y} mx my e => ?_) h3
    rw [row x (pj.mem_iff.mp mx), row y (pj.mem_iff.mp my)] at e
    exact of_decide_eq_false e
/-- two such rows of the same are one -/
theorem rows_uniq {xs ys : List (List Int)} (p : xs.Perm ys) (h1 : xs.Pairwise (fun x y => ¬ y < x)) (h2 : ys.Pairwise (fun x y => ¬ y < x)) : xs = ys :=
  List.Perm.eq_of_pairwise (fun a b _ _ x y => List.le_antisymm (List.not_lt.mp x) (List.not_lt.mp y)) h1 h2 p
end
end Ev

namespace Ev
open PySem L2
theorem flt_range_len {p : Nat → Bool} {i : Nat} : ((List.range i).filter p).length ≤ i := Nat.le_trans (List.length_filter_le _ _) (by rw [List.length_range]; exact Nat.le_refl _)
theorem nv_append (l k : List Nat) : nv (l ++ k) = nv l ++ nv k := List.map_append
/-! ### closed lots, by their names -/
def ClosedI (ps : List Pr) (ls : List Int) : Prop := ∀ a c, (a, c) ∈ ps → c ∈ ls → a ∈ ls
def closedI (ps : List Pr) (ls : List Int) : Bool := ps.all fun p => !decide (p.2 ∈ ls) || decide (p.1 ∈ ls)
theorem closedI_iff {ps : List Pr} {ls : List Int} : closedI ps ls = true ↔ ClosedI ps ls := by
  unfold closedI ClosedI
  rw [List.all_eq_true]
  constructor
  · intro h a c m hc
    have := h _ m
    rw [decide_eq_true hc] at this
    exact of_decide_eq_true this
  · intro h p m
    by_cases hc : p.2 ∈ ls
    · rw [decide_eq_true hc, decide_eq_true (h p.1 p.2 m hc)]
      rfl
    · rw [decide_eq_false hc]
      rfl
theorem closed_same {m : Nat} {ps : List Pr} {bs : List Nat} (N : Needs m ps bs) (bd : In m ps) {ls : List Int} (p : ls.Pairwise (· < ·)) (b : ∀ x ∈ ls, 0 ≤ x ∧ x < m) : closedB bs (nb ls) = closedI ps ls := by
  refine Bool.eq_iff_iff.mpr ?_
  rw [closedB_iff N bd, closedI_iff]
  have bit : ∀ a : Int, 0 ≤ a → ((nb ls).testBit a.toNat = true ↔ a ∈ ls) := fun a h0 => by
    rw [nb_bit p (fun x mx => (b x mx).1), decide_eq_true_eq, show ((a.toNat : Nat) : Int) = a by omega]
  constructor
  · intro h a c m hc
    have q := bd _ m
    exact (bit a q.1).mp (h a c m ((bit c q.2.2.1).mpr hc))
  · intro h a c m hc
    have q := bd _ m
    exact (bit a q.1).mpr (h a c m ((bit c q.2.2.1).mp hc))
/-- who may come behind a lot -/
def canI (ps : List Pr) (ls : List Int) (a : Int) : Bool := !decide (a ∈ ls) && ps.all fun p => !decide (p.2 = a) || decide (p.1 ∈ ls)
def freeI (m : Nat) (ps : List Pr) (ls : List Int) : List Int := (upto m).filter (canI ps ls)
theorem comers_free {m : Nat} {ps : List Pr} {bs : List Nat} (N : Needs m ps bs) (bd : In m ps) {ls : List Int} (p : ls.Pairwise (· < ·)) (b : ∀ x ∈ ls, 0 ≤ x ∧ x < m) : nv (comersL bs (nb ls)) = (freeI m ps ls).map V.int := by
  unfold nv comersL freeI upto
  rw [N.len, List.filter_map, List.map_map]
  congr 1
  refine List.filter_congr fun k hk => ?_
  have hk := List.mem_range.mp hk
  have bit : ∀ a : Int, 0 ≤ a → ((nb ls).testBit a.toNat = true ↔ a ∈ ls) := fun a h0 => by
    rw [nb_bit p (fun x mx => (b x mx).1), decide_eq_true_eq, show ((a.toNat : Nat) : Int) = a by omega]
  show freeB bs (nb ls) k = canI ps ls (k : Int)
  unfold freeB canI
  have e1 : (nb ls).testBit k = decide ((k : Int) ∈ ls) := nb_bit p (fun x mx => (b x mx).1) k
  have e2 : hasB bs (nb ls) k = ps.all fun p => !decide (p.2 = (k : Int)) || decide (p.1 ∈ ls) := by
    refine Bool.eq_iff_iff.mpr ?_
    rw [hasB_iff N bd, List.all_eq_true]
    constructor
    · intro h q mq
      by_cases e : q.2 = (k : Int)
      · have mq' : (q.1, (k : Int)) ∈ ps := by
          rw [← e]
          exact mq
        rw [decide_eq_true e, decide_eq_true ((bit q.1 (bd _ mq).1).mp (h q.1 mq'))]
        rfl
      · rw [decide_eq_false e]
        rfl
    · intro h a ma
      have := h _ ma
      rw [decide_eq_true rfl] at this
      exact (bit a (bd _ ma).1).mpr (of_decide_eq_true this)
  rw [e1, e2]
/-- the ascending row of all closed lots -/
structure LotsOk (m : Nat) (ps : List Pr) (L : List (List Int)) : Prop where
  up : L.Pairwise (fun x y => ¬ y < x)
  nd : L.Nodup
  mem : ∀ l, l ∈ L ↔ LotOk m l ∧ ClosedI ps l
theorem LotsOk.uniq {m : Nat} {ps : List Pr} {L M : List (List Int)} (h : LotsOk m ps L) (k : LotsOk m ps M) : L = M :=
  rows_uniq ((List.perm_ext_iff_of_nodup h.nd k.nd).mpr fun l => (h.mem l).trans (k.mem l).symm) h.up k.up
theorem lots_of_bits {m : Nat} {ps : List Pr} {bs : List Nat} (N : Needs m ps bs) (bd : In m ps) {L : List (List Int)} (pm : L.Perm ((closedL bs).map (lotI m))) (up : L.Pairwise (fun x y => ¬ y < x)) : LotsOk m ps L := by
  have lt : ∀ n ∈ closedL bs, n < 2 ^ m ∧ closedB bs n = true := fun n mn => by
    unfold closedL at mn
    obtain ⟨h1, h2⟩ := List.mem_filter.mp mn
    rw [N.len] at h1
    exact ⟨List.mem_range.mp h1, h2⟩
  have bdl : ∀ n, ∀ x ∈ lotI m n, 0 ≤ x ∧ x < m := fun n x mx => by
    have := mem_lotI.mp mx
    exact ⟨this.1, this.2.1⟩
  refine ⟨up, pm.nodup_iff.mpr ?_, fun l => ?_⟩
  · refine List.pairwise_map.mpr (List.Pairwise.imp_of_mem (fun {a b} ma mb ne e => ne ?_) ((List.nodup_range (n := 2 ^ bs.length)).sublist List.filter_sublist))
    rw [← nb_lotI (lt a ma).1, ← nb_lotI (lt b mb).1, e]
  · rw [pm.mem_iff, List.mem_map]
    constructor
    · rintro ⟨n, mn, rfl⟩
      have h := lt n mn
      refine ⟨⟨lotI_up m n, bdl n⟩, closedI_iff.mp ?_⟩
      rw [← closed_same N bd (lotI_up m n) (bdl n), nb_lotI h.1]
      exact h.2
    · rintro ⟨L, c⟩
      refine ⟨nb l, ?_, lotI_nb L.up L.bd⟩
      unfold closedL
      rw [List.mem_filter, List.mem_range, N.len]
      refine ⟨nb_lt L.up L.bd, ?_⟩
      rw [closed_same N bd L.up L.bd]
      exact closedI_iff.mpr c
end Ev

namespace Ev
open PySem L2
/-! ### how many are left -/
def leftN (m n : Nat) : Nat := ((List.range m).filter fun k => !n.testBit k).length
theorem leftN_succ (m n : Nat) : leftN (m + 1) n = leftN m n + (if n.testBit m = true then 0 else 1) := by
  unfold leftN
  rw [List.range_succ, List.filter_append, List.length_append]
  congr 1
  cases e : n.testBit m with
  | true => rw [List.filter_cons_of_neg (by rw [e]; decide)]; rfl
  | false => rw [List.filter_cons_of_pos (by rw [e]; rfl)]; rfl
theorem bit_put (n k i : Nat) : (n ||| 2 ^ k).testBit i = (n.testBit i || decide (k = i)) := by rw [Nat.testBit_or, Nat.testBit_two_pow]
theorem leftN_put (n k : Nat) : ∀ m, leftN m (n ||| 2 ^ k) + (if k < m ∧ n.testBit k = false then 1 else 0) = leftN m n
  | 0 => by
    unfold leftN
    simp
  | m + 1 => by
    have ih := leftN_put n k m
    rw [leftN_succ, leftN_succ, bit_put]
    by_cases e : k = m
    · subst e
      rw [decide_eq_true rfl, Bool.or_true, if_pos rfl]
      rw [if_neg (by omega)] at ih
      cases b : n.testBit k with
      | true => rw [if_neg (by rintro ⟨_, h⟩; cases h), if_pos rfl]; omega
      | false => rw [if_pos ⟨by omega, rfl⟩, if_neg Bool.false_ne_true]; omega
    · rw [decide_eq_false e, Bool.or_false]
      generalize (if n.testBit m = true then 0 else 1) = y
      by_cases c : k < m ∧ n.testBit k = false
      · rw [if_pos c] at ih
        rw [if_pos ⟨by omega, c.2⟩]
        omega
      · rw [if_neg c] at ih
        rw [if_neg (fun h => c ⟨by omega, h.2⟩)]
        omega
theorem mem_comers {bs : List Nat} {n k : Nat} : k ∈ comersL bs n ↔ k < bs.length ∧ n.testBit k = false ∧ hasB bs n k = true := by
  unfold comersL freeB
  rw [List.mem_filter, List.mem_range, Bool.and_eq_true]
  cases n.testBit k <;> simp
theorem left_of_comer {bs : List Nat} {n k : Nat} (h : k ∈ comersL bs n) : leftN bs.length (n ||| 2 ^ k) + 1 = leftN bs.length n := by
  have c := mem_comers.mp h
  have e := leftN_put n k bs.length
  rw [if_pos ⟨c.1, c.2.1⟩] at e
  exact e
/-! ### the ways to go on -/
def wy (bs : List Nat) : Nat → Nat → Nat
  | 0, _ => 1
  | f + 1, n => if (comersL bs n).isEmpty = true then 1 else ((comersL bs n).map fun k => wy bs f (n ||| 2 ^ k)).sum
def ways (bs : List Nat) (n : Nat) : Nat := wy bs (leftN bs.length n) n
theorem wy_enough {bs : List Nat} : ∀ (f g n : Nat), leftN bs.length n ≤ f → leftN bs.length n ≤ g → wy bs f n = wy bs g n
  | 0, 0, _, _, _ => rfl
  | 0, g + 1, n, h, _ => by
    have e : (comersL bs n).isEmpty = true := by
      cases q : comersL bs n with
      | nil => rfl
      | cons k r =>
        have := left_of_comer (bs := bs) (n := n) (k := k) (by rw [q]; exact List.mem_cons_self)
        omega
    show 1 = if (comersL bs n).isEmpty = true then 1 else _
    rw [if_pos e]
  | f + 1, 0, n, _, h => by
    have e : (comersL bs n).isEmpty = true := by
      cases q : comersL bs n with
      | nil => rfl
      | cons k r =>
        have := left_of_comer (bs := bs) (n := n) (k := k) (by rw [q]; exact List.mem_cons_self)
        omega
    show (if (comersL bs n).isEmpty = true then 1 else _) = 1
    rw [if_pos e]
  | f + 1, g + 1, n, h1, h2 => by
    show (if (comersL bs n).isEmpty = true then 1 else ((comersL bs n).map fun k => wy bs f (n ||| 2 ^ k)).sum) = (if (comersL bs n).isEmpty = true then 1 else ((comersL bs n).map fun k => wy bs g (n ||| 2 ^ k)).sum)
    congr 2
    refine List.map_congr_left fun k mk => ?_
    have := left_of_comer mk
    exact wy_enough f g _ (by omega) (by omega)
theorem ways_nil {bs : List Nat} {n : Nat} (h : comersL bs n = []) : ways bs n = 1 := by
  unfold ways
  cases leftN bs.length n with
  | zero => rfl
  | succ f =>
    show (if (comersL bs n).isEmpty = true then 1 else _) = 1
    rw [h]
    rfl
theorem ways_step {bs : List Nat} {n : Nat} (h : comersL bs n ≠ []) : ways bs n = ((comersL bs n).map fun k => ways bs (n ||| 2 ^ k)).sum := by
  obtain ⟨k0, r, e0⟩ := List.exists_cons_of_ne_nil h
  have l0 := left_of_comer (bs := bs) (n := n) (k := k0) (by rw [e0]; exact List.mem_cons_self)
  unfold ways
  rw [← l0]
  show (if (comersL bs n).isEmpty = true then 1 else _) = _
  rw [if_neg (by rw [e0]; exact Bool.false_ne_true)]
  congr 1
  refine List.map_congr_left fun k mk => ?_
  have := left_of_comer mk
  exact wy_enough _ _ _ (by omega) (Nat.le_refl _)
/-! ### a closed lot with one who may come is closed -/
theorem closed_put {m : Nat} {ps : List Pr} {bs : List Nat} (N : Needs m ps bs) (bd : In m ps) {n k : Nat} (c : closedB bs n = true) (mk : k ∈ comersL bs n) : closedB bs (n ||| 2 ^ k) = true := by
  have ck := mem_comers.mp mk
  rw [closedB_iff N bd] at c ⊢
  intro a b mp hb
  rw [bit_put, Bool.or_eq_true] at hb ⊢
  rcases hb with hb | hb
  · exact .inl (c a b mp hb)
  · have e := of_decide_eq_true hb
    have q := bd _ mp
    simp only at q
    refine .inl ((hasB_iff N bd).mp ck.2.2 a ?_)
    rw [show ((k : Nat) : Int) = b by omega]
    exact mp
theorem put_lt {m n k : Nat} (h : n < 2 ^ m) (hk : k < m) : n ||| 2 ^ k < 2 ^ m := Nat.or_lt_two_pow h (Nat.pow_lt_pow_right (by decide) hk)
theorem put_gt {n k : Nat} (h : n.testBit k = false) : n < n ||| 2 ^ k := by
  refine Nat.lt_of_le_of_ne Nat.left_le_or fun e => ?_
  have b := bit_put n k k
  rw [← e, h, decide_eq_true rfl] at b
  cases b
/-! ### rows of names -/
/-- the rows that go on from a row, t names longer -/
def rowsFrom (m : Nat) (ps : List Pr) : Nat → List Int → List (List Int)
  | 0, row => [row]
  | t + 1, row => (freeI m ps row).flatMap fun a => rowsFrom m ps t (row ++ [a])
theorem comers_gen {m : Nat} {ps : List Pr} {bs : List Nat} (N : Needs m ps bs) (bd : In m ps) {ls : List Int} {n : Nat} (bit : ∀ a : Int, 0 ≤ a → (n.testBit a.toNat = true ↔ a ∈ ls)) : (comersL bs n).map (fun k : Nat => (k : Int)) = freeI m ps ls := by
  unfold comersL freeI upto
  rw [N.len, List.filter_map]
  congr 1
  refine List.filter_congr fun k hk => ?_
  have e1 : n.testBit k = decide ((k : Int) ∈ ls) := by
    have := bit (k : Int) (by omega)
    rw [Int.toNat_natCast] at this
    exact Bool.eq_iff_iff.mpr (by rw [decide_eq_true_eq]; exact this)
  have e2 : hasB bs n k = ps.all fun p => !decide (p.2 = (k : Int)) || decide (p.1 ∈ ls) := by
    refine Bool.eq_iff_iff.mpr ?_
    rw [hasB_iff N bd, List.all_eq_true]
    constructor
    · intro h q mq
      by_cases e : q.2 = (k : Int)
      · have mq' : (q.1, (k : Int)) ∈ ps := by
          rw [← e]
          exact mq
        rw [decide_eq_true e, decide_eq_true ((bit q.1 (bd _ mq).1).mp (h q.1 mq'))]
        rfl
      · rw [decide_eq_false e]
        rfl
    · intro h a ma
      have := h _ ma
      rw [decide_eq_true rfl] at this
      exact (bit a (bd _ ma).1).mpr (of_decide_eq_true this)
  show freeB bs n k = canI ps ls (k : Int)
  unfold freeB canI
  rw [e1, e2]
theorem some_comer {m : Nat} {ps : List Pr} {bs : List Nat} (N : Needs m ps bs) (bd : In m ps) (ok : UpsOk ps) {n : Nat} (h : 0 < leftN m n) : comersL bs n ≠ [] := fun e => by
  obtain ⟨r, u⟩ := ok.up
  have all : ∀ (d k : Nat), r (k : Int) = d → k < m → n.testBit k = true := by
    intro d
    induction d using Nat.strongRecOn with
    | ind d ih =>
      intro k hr hk
      cases b : n.testBit k with
      | true => rfl
      | false =>
        exfalso
        have no : k ∉ comersL bs n := by
          rw [e]
          exact nofun
        refine no (mem_comers.mpr ⟨by rw [N.len]; exact hk, b, (hasB_iff N bd).mpr fun a ma => ?_⟩)
        have q := u.up _ _ ma
        have c := bd _ ma
        simp only at c
        obtain ⟨j, rfl⟩ := Int.eq_ofNat_of_zero_le c.1
        rw [Int.toNat_natCast]
        exact ih (r (j : Int)) (by rw [← hr]; exact q) j rfl (by omega)
  unfold leftN at h
  obtain ⟨k, mk⟩ := List.exists_mem_of_length_pos h
  obtain ⟨m1, m2⟩ := List.mem_filter.mp mk
  rw [all _ k rfl (List.mem_range.mp m1)] at m2
  cases m2
theorem ways_rows {m : Nat} {ps : List Pr} {bs : List Nat} (N : Needs m ps bs) (bd : In m ps) (ok : UpsOk ps) : ∀ (t n : Nat) (row : List Int), leftN m n = t → (∀ a : Int, 0 ≤ a → (n.testBit a.toNat = true ↔ a ∈ row)) → (rowsFrom m ps t row).length = ways bs n
  | 0, n, row, h, bit => by
    have e : comersL bs n = [] := by
      cases q : comersL bs n with
      | nil => rfl
      | cons k r =>
        have := left_of_comer (bs := bs) (n := n) (k := k) (by rw [q]; exact List.mem_cons_self)
        rw [N.len] at this
        omega
    rw [ways_nil e]
    rfl
  | t + 1, n, row, h, bit => by
    rw [ways_step (some_comer N bd ok (by omega))]
    show ((freeI m ps row).flatMap fun a => rowsFrom m ps t (row ++ [a])).length = _
    rw [← comers_gen N bd bit, List.length_flatMap, List.map_map]
    congr 1
    refine List.map_congr_left fun k mk => ?_
    have lk := left_of_comer mk
    rw [N.len] at lk
    refine ways_rows N bd ok t (n ||| 2 ^ k) (row ++ [(k : Int)]) (by omega) fun a h0 => ?_
    rw [bit_put, Bool.or_eq_true, bit a h0, decide_eq_true_eq, List.mem_append, List.mem_singleton]
    constructor
    · rintro (h | h)
      · exact .inl h
      · exact .inr (by omega)
    · rintro (h | h)
      · exact .inl h
      · exact .inr (by omega)
/-- all orders -/
def ordersL (m : Nat) (ps : List Pr) : List (List Int) := rowsFrom m ps m []
theorem ways_all {m : Nat} {ps : List Pr} {bs : List Nat} (N : Needs m ps bs) (bd : In m ps) (ok : UpsOk ps) : ways bs 0 = (ordersL m ps).length := by
  refine (ways_rows N bd ok m 0 [] ?_ fun a _ => ?_).symm
  · unfold leftN
    rw [List.filter_eq_self.mpr fun k _ => by rw [Nat.zero_testBit]; rfl, List.length_range]
  · rw [Nat.zero_testBit]
    constructor
    · intro h
      cases h
    · exact fun h => nomatch h
end Ev

namespace Ev
open PySem L2
/-! ### the numbers of orders of webs put together -/
def cnt (m : Nat) (ps : List Pr) (t : Nat) (row : List Int) : Nat := (rowsFrom m ps t row).length
theorem cnt_succ {m : Nat} {ps : List Pr} {t : Nat} {row : List Int} : cnt m ps (t + 1) row = ((freeI m ps row).map fun a => cnt m ps t (row ++ [a])).sum := by
  unfold cnt
  show ((freeI m ps row).flatMap fun a => rowsFrom m ps t (row ++ [a])).length = _
  rw [List.length_flatMap]
def lv (m : Nat) (row : List Int) : Nat := ((upto m).filter fun a => !decide (a ∈ row)).length
theorem mem_freeI {m : Nat} {ps : List Pr} {row : List Int} {a : Int} : a ∈ freeI m ps row ↔ (0 ≤ a ∧ a < m) ∧ a ∉ row ∧ ∀ b, (b, a) ∈ ps → b ∈ row := by
  unfold freeI canI
  rw [List.mem_filter, mem_upto, Bool.and_eq_true, List.all_eq_true]
  refine and_congr_right fun _ => and_congr ?_ ?_
  · by_cases e : a ∈ row
    · rw [decide_eq_true e]
      exact ⟨fun h => (by cases h), fun h => absurd e h⟩
    · rw [decide_eq_false e]
      exact ⟨fun _ => e, fun _ => rfl⟩
  · constructor
    · intro h b mb
      have := h _ mb
      rw [decide_eq_true rfl] at this
      exact of_decide_eq_true this
    · intro h p mp
      by_cases e : p.2 = a
      · subst e
        rw [decide_eq_true (h p.1 mp)]
        exact Bool.or_true _
      · rw [decide_eq_false e]
        rfl
theorem lv_put {m : Nat} {row : List Int} {a : Int} (h : 0 ≤ a ∧ a < m) (n : a ∉ row) : lv m (row ++ [a]) + 1 = lv m row := by
  have key : ∀ (l : List Int), l.Nodup → (if a ∈ l then 1 else 0) + (l.filter fun x => !decide (x ∈ row ++ [a])).length = (l.filter fun x => !decide (x ∈ row)).length := by
    intro l
    induction l with
    | nil => intro _; rfl
    | cons x r ih =>
      intro nd
      have nd := List.nodup_cons.mp nd
      have ih := ih nd.2
      by_cases e : x = a
      · subst e
        rw [if_neg nd.1] at ih
        rw [if_pos List.mem_cons_self, List.filter_cons_of_neg (by rw [decide_eq_true (List.mem_append.mpr (.inr List.mem_cons_self))]; decide), List.filter_cons_of_pos (by rw [decide_eq_false n]; rfl), List.length_cons]
        omega
      · have e1 : (a ∈ x :: r) ↔ a ∈ r := by
          rw [List.mem_cons]
          exact ⟨fun h => h.elim (fun q => absurd q.symm e) id, .inr⟩
        have e2 : (x ∈ row ++ [a]) ↔ x ∈ row := by
          rw [List.mem_append, List.mem_singleton]
          exact ⟨fun h => h.elim id (fun q => absurd q e), .inl⟩
        have e3 : (if a ∈ x :: r then 1 else 0) = (if a ∈ r then 1 else 0 : Nat) := by
          by_cases q : a ∈ r
          · rw [if_pos q, if_pos (e1.mpr q)]
          · rw [if_neg q, if_neg (fun z => q (e1.mp z))]
        rw [e3]
        by_cases q : x ∈ row
        · rw [List.filter_cons_of_neg (by rw [decide_eq_true (e2.mpr q)]; decide), List.filter_cons_of_neg (by rw [decide_eq_true q]; decide)]
          exact ih
        · rw [List.filter_cons_of_pos (by rw [decide_eq_false (fun z => q (e2.mp z))]; rfl), List.filter_cons_of_pos (by rw [decide_eq_false q]; rfl), List.length_cons, List.length_cons]
          omega
  have := key (upto m) ((upto_asc m).imp fun l => by omega)
  rw [if_pos (mem_upto.mpr h)] at this
  unfold lv
  omega
theorem lv_nil (m : Nat) : lv m [] = m := by
  unfold lv
  have e : (upto m).filter (fun a => !decide (a ∈ ([] : List Int))) = upto m := List.filter_eq_self.mpr fun a _ => by
    rw [decide_eq_false (fun h => nomatch h)]
    rfl
  rw [e, upto_length]
theorem lv_zero {m : Nat} {row : List Int} (h : lv m row = 0) {a : Int} (b : 0 ≤ a ∧ a < m) : a ∈ row := by
  by_cases e : a ∈ row
  · exact e
  · exfalso
    have : a ∈ (upto m).filter fun a => !decide (a ∈ row) := List.mem_filter.mpr ⟨mem_upto.mpr b, by rw [decide_eq_false e]; rfl⟩
    unfold lv at h
    have := List.length_pos_of_mem this
    omega
theorem lv_pos {m : Nat} {row : List Int} (h : 0 < lv m row) : ∃ a : Int, (0 ≤ a ∧ a < m) ∧ a ∉ row := by
  unfold lv at h
  obtain ⟨a, ma⟩ := List.exists_mem_of_length_pos h
  obtain ⟨m1, m2⟩ := List.mem_filter.mp ma
  refine ⟨a, mem_upto.mp m1, fun q => ?_⟩
  rw [decide_eq_true q] at m2
  cases m2
theorem free_nil {m : Nat} {ps : List Pr} {row : List Int} (h : lv m row = 0) : freeI m ps row = [] := List.eq_nil_iff_forall_not_mem.mpr fun a ma => by
  have c := mem_freeI.mp ma
  exact c.2.1 (lv_zero h c.1)
theorem cnt_le {m : Nat} {ps : List Pr} : ∀ (t : Nat) (row : List Int), cnt m ps t row ≤ m ^ t
  | 0, _ => by
    show 1 ≤ m ^ 0
    rw [Nat.pow_zero]
    exact Nat.le_refl _
  | t + 1, row => by
    rw [cnt_succ]
    have key : ∀ l : List Int, (l.map fun a => cnt m ps t (row ++ [a])).sum ≤ l.length * m ^ t := by
      intro l
      induction l with
      | nil => exact Nat.zero_le _
      | cons x r ih =>
        rw [List.map_cons, List.sum_cons, List.length_cons, Nat.succ_mul]
        have := cnt_le (m := m) (ps := ps) t (row ++ [x])
        omega
    have h1 := key (freeI m ps row)
    have h2 : (freeI m ps row).length ≤ m := Nat.le_trans (List.length_filter_le _ _) (by rw [upto_length]; exact Nat.le_refl _)
    have h3 := Nat.mul_le_mul_right (m ^ t) h2
    rw [Nat.pow_succ, Nat.mul_comm (m ^ t)]
    omega
def bin : Nat → Nat → Nat
  | _, 0 => 1
  | 0, _ + 1 => 0
  | n + 1, k + 1 => bin n k + bin n (k + 1)
theorem bin_over : ∀ {n k : Nat}, n < k → bin n k = 0
  | 0, k + 1, _ => rfl
  | n + 1, k + 1, h => by
    show bin n k + bin n (k + 1) = 0
    rw [bin_over (by omega), bin_over (by omega)]
theorem bin_self : ∀ n : Nat, bin n n = 1
  | 0 => rfl
  | n + 1 => by
    show bin n n + bin n (n + 1) = 1
    rw [bin_self n, bin_over (by omega)]
def shf (k : Nat) (p : Pr) : Pr := (p.1 + k, p.2 + k)
theorem upto_add (a b : Nat) : upto (a + b) = upto a ++ (upto b).map (· + (a : Int)) := by
  unfold upto
  rw [List.range_add, List.map_append, List.map_map, List.map_map]
  congr 1
  refine List.map_congr_left fun k _ => ?_
  show ((a + k : Nat) : Int) = (k : Int) + a
  omega
/-- a row of both, and what of it is of either -/
structure Both (m1 m2 : Nat) (r rA rB : List Int) : Prop where
  a : ∀ x, 0 ≤ x → x < (m1 : Int) → (x ∈ r ↔ x ∈ rA)
  b : ∀ x, 0 ≤ x → x < (m2 : Int) → (x + (m1 : Int) ∈ r ↔ x ∈ rB)
theorem Both.putA {m1 m2 : Nat} {r rA rB : List Int} (h : Both m1 m2 r rA rB) {x : Int} (b : x < m1) : Both m1 m2 (r ++ [x]) (rA ++ [x]) rB :=
  ⟨fun y h0 h1 => by rw [List.mem_append, List.mem_append, h.a y h0 h1], fun y h0 h1 => by
    rw [List.mem_append, h.b y h0 h1, List.mem_singleton]
    exact ⟨fun q => q.elim id (fun q => by omega), .inl⟩⟩
theorem Both.putB {m1 m2 : Nat} {r rA rB : List Int} (h : Both m1 m2 r rA rB) {x : Int} (b : 0 ≤ x) : Both m1 m2 (r ++ [x + (m1 : Int)]) rA (rB ++ [x]) :=
  ⟨fun y h0 h1 => by
    rw [List.mem_append, h.a y h0 h1, List.mem_singleton]
    exact ⟨fun q => q.elim id (fun q => by omega), .inl⟩, fun y h0 h1 => by
    rw [List.mem_append, List.mem_append, h.b y h0 h1, List.mem_singleton, List.mem_singleton]
    exact ⟨fun q => q.elim .inl (fun q => .inr (by omega)), fun q => q.elim .inl (fun q => .inr (by omega))⟩⟩
/-- beside each other -/
structure Beside (m1 m2 : Nat) (ps1 ps2 ps : List Pr) : Prop where
  i1 : In m1 ps1
  i2 : In m2 ps2
  mem : ∀ p, p ∈ ps ↔ p ∈ ps1 ∨ p ∈ ps2.map (shf m1)
theorem Beside.free {m1 m2 : Nat} {ps1 ps2 ps : List Pr} (h : Beside m1 m2 ps1 ps2 ps) {r rA rB : List Int} (B : Both m1 m2 r rA rB) : freeI (m1 + m2) ps r = freeI m1 ps1 rA ++ (freeI m2 ps2 rB).map (· + (m1 : Int)) := by
  unfold freeI
  rw [upto_add, List.filter_append, List.filter_map]
  congr 1
  · refine List.filter_congr fun a ma => ?_
    have b := mem_upto.mp ma
    have e := mem_freeI (m := m1) (ps := ps1) (row := rA) (a := a)
    have e' := mem_freeI (m := m1) (ps := ps) (row := r) (a := a)
    unfold freeI at e e'
    rw [List.mem_filter, mem_upto, and_congr_right_iff] at e e'
    refine Bool.eq_iff_iff.mpr ((e' b).trans (Iff.trans ?_ (e b).symm))
    refine and_congr (not_congr (B.a a b.1 b.2)) ⟨fun k c mc => ?_, fun k c mc => ?_⟩
    · have q := h.i1 _ mc
      exact (B.a c q.1 q.2.1).mp (k c ((h.mem _).mpr (.inl mc)))
    · rcases (h.mem _).mp mc with mc | mc
      · have q := h.i1 _ mc
        exact (B.a c q.1 q.2.1).mpr (k c mc)
      · obtain ⟨⟨u, v⟩, mu, eu⟩ := List.mem_map.mp mc
        have q := h.i2 _ mu
        have e2 : v + (m1 : Int) = a := congrArg Prod.snd eu
        simp only at q
        omega
  · congr 1
    refine List.filter_congr fun a ma => ?_
    have b := mem_upto.mp ma
    have e := mem_freeI (m := m2) (ps := ps2) (row := rB) (a := a)
    have e' := mem_freeI (m := m1 + m2) (ps := ps) (row := r) (a := a + m1)
    unfold freeI at e e'
    rw [List.mem_filter, mem_upto, and_congr_right_iff] at e e'
    refine Bool.eq_iff_iff.mpr ((e' (by omega)).trans (Iff.trans ?_ (e b).symm))
    refine and_congr (not_congr (B.b a b.1 b.2)) ⟨fun k c mc => ?_, fun k c mc => ?_⟩
    · have q := h.i2 _ mc
      exact (B.b c q.1 q.2.1).mp (k _ ((h.mem _).mpr (.inr (List.mem_map.mpr ⟨_, mc, rfl⟩))))
    · rcases (h.mem _).mp mc with mc | mc
      · have q := h.i1 _ mc
        simp only at q
        omega
      · obtain ⟨⟨u, v⟩, mu, eu⟩ := List.mem_map.mp mc
        have q := h.i2 _ mu
        have e1 : u + (m1 : Int) = c := congrArg Prod.fst eu
        have e2 : v + (m1 : Int) = a + m1 := congrArg Prod.snd eu
        have e3 : v = a := by omega
        subst e3
        rw [← e1]
        exact (B.b u q.1 q.2.1).mpr (k u mu)
theorem sum_mul_right (l : List Int) (f : Int → Nat) (c : Nat) : (l.map fun a => f a * c).sum = (l.map f).sum * c := by
  induction l with
  | nil => rw [List.map_nil, List.map_nil, List.sum_nil, Nat.zero_mul]
  | cons x r ih => rw [List.map_cons, List.map_cons, List.sum_cons, List.sum_cons, ih, Nat.add_mul]
theorem beside_cnt {m1 m2 : Nat} {ps1 ps2 ps : List Pr} (h : Beside m1 m2 ps1 ps2 ps) : ∀ (t i j : Nat) (r rA rB : List Int), t = i + j → lv m1 rA = i → lv m2 rB = j → Both m1 m2 r rA rB → cnt (m1 + m2) ps t r = cnt m1 ps1 i rA * cnt m2 ps2 j rB * bin t i
  | 0, i, j, r, rA, rB, ht, hi, hj, B => by
    obtain rfl : i = 0 := by omega
    obtain rfl : j = 0 := by omega
    rfl
  | t + 1, i, j, r, rA, rB, ht, hi, hj, B => by
    rw [cnt_succ, h.free B, List.map_append, List.sum_append, List.map_map]
    generalize hA : ((freeI m1 ps1 rA).map fun a => cnt (m1 + m2) ps t (r ++ [a])).sum = SA
    generalize hB : ((freeI m2 ps2 rB).map ((fun a => cnt (m1 + m2) ps t (r ++ [a])) ∘ (· + (m1 : Int)))).sum = SB
    have sA0 : i = 0 → SA = 0 := fun e => by
      rw [← hA, free_nil (by rw [hi, e])]
      rfl
    have sB0 : j = 0 → SB = 0 := fun e => by
      rw [← hB, free_nil (by rw [hj, e])]
      rfl
    have sA1 : ∀ i', i = i' + 1 → SA = cnt m1 ps1 (i' + 1) rA * (cnt m2 ps2 j rB * bin t i') := fun i' e => by
      rw [cnt_succ, ← sum_mul_right, ← hA]
      congr 1
      refine List.map_congr_left fun a ma => ?_
      have c := mem_freeI.mp ma
      have l := lv_put c.1 c.2.1
      rw [beside_cnt h t i' j (r ++ [a]) (rA ++ [a]) rB (by omega) (by omega) hj (B.putA c.1.2), Nat.mul_assoc]
    have sB1 : ∀ j', j = j' + 1 → SB = cnt m2 ps2 (j' + 1) rB * (cnt m1 ps1 i rA * bin t i) := fun j' e => by
      rw [cnt_succ, ← sum_mul_right, ← hB]
      congr 1
      refine List.map_congr_left fun a ma => ?_
      have c := mem_freeI.mp ma
      have l := lv_put c.1 c.2.1
      show cnt (m1 + m2) ps t (r ++ [a + (m1 : Int)]) = _
      rw [beside_cnt h t i j' (r ++ [a + (m1 : Int)]) rA (rB ++ [a]) (by omega) hi (by omega) (B.putB c.1.1), Nat.mul_comm (cnt m1 ps1 i rA), Nat.mul_assoc]
    cases i with
    | zero =>
      cases j with
      | zero => omega
      | succ j =>
        obtain rfl : t = j := by omega
        rw [sA0 rfl, sB1 t rfl]
        have e1 : bin t 0 = 1 := by cases t <;> rfl
        have e2 : bin (t + 1) 0 = 1 := rfl
        rw [e1, e2, Nat.zero_add, Nat.mul_one, Nat.mul_one, Nat.mul_comm]
    | succ i =>
      cases j with
      | zero =>
        obtain rfl : t = i := by omega
        rw [sA1 t rfl, sB0 rfl, bin_self, bin_self, Nat.mul_one, Nat.mul_one, Nat.add_zero]
      | succ j =>
        rw [sA1 i rfl, sB1 j rfl]
        show _ = cnt m1 ps1 (i + 1) rA * cnt m2 ps2 (j + 1) rB * (bin t i + bin t (i + 1))
        generalize cnt m1 ps1 (i + 1) rA = x
        generalize cnt m2 ps2 (j + 1) rB = y
        rw [Nat.mul_add, Nat.mul_assoc, Nat.mul_left_comm y x, Nat.mul_assoc]
theorem both_nil (m1 m2 : Nat) : Both m1 m2 [] [] [] := ⟨fun _ _ _ => Iff.rfl, fun _ _ _ => ⟨nofun, nofun⟩⟩
theorem Beside.all {m1 m2 : Nat} {ps1 ps2 ps : List Pr} (h : Beside m1 m2 ps1 ps2 ps) : (ordersL (m1 + m2) ps).length = (ordersL m1 ps1).length * (ordersL m2 ps2).length * bin (m1 + m2) m1 :=
  beside_cnt h (m1 + m2) m1 m2 [] [] [] rfl (lv_nil _) (lv_nil _) (both_nil _ _)
/-- one behind the other -/
structure Behind (m1 m2 : Nat) (ps1 ps2 ps : List Pr) : Prop where
  i1 : In m1 ps1
  i2 : In m2 ps2
  mem : ∀ p, p ∈ ps ↔ p ∈ ps1 ∨ p ∈ ps2.map (shf m1) ∨ (0 ≤ p.1 ∧ p.1 < m1 ∧ (m1 : Int) ≤ p.2 ∧ p.2 < (m1 : Int) + m2)
theorem Behind.freeA {m1 m2 : Nat} {ps1 ps2 ps : List Pr} (h : Behind m1 m2 ps1 ps2 ps) {r rA rB : List Int} (B : Both m1 m2 r rA rB) (l : 0 < lv m1 rA) : freeI (m1 + m2) ps r = freeI m1 ps1 rA := by
  unfold freeI
  rw [upto_add, List.filter_append]
  have e0 : ((upto m2).map (· + (m1 : Int))).filter (canI ps r) = [] := List.eq_nil_iff_forall_not_mem.mpr fun a ma => by
    obtain ⟨m3, m4⟩ := List.mem_filter.mp ma
    obtain ⟨x, mx, rfl⟩ := List.mem_map.mp m3
    have b := mem_upto.mp mx
    have c := mem_freeI.mp (show x + (m1 : Int) ∈ freeI (m1 + m2) ps r from List.mem_filter.mpr ⟨mem_upto.mpr (by omega), m4⟩)
    obtain ⟨y, by_, ny⟩ := lv_pos l
    exact ny ((B.a y by_.1 by_.2).mp (c.2.2 y ((h.mem _).mpr (.inr (.inr ⟨by_.1, by_.2, by simp only; omega, by simp only; omega⟩)))))
  rw [e0, List.append_nil]
  refine List.filter_congr fun a ma => ?_
  have b := mem_upto.mp ma
  have e := mem_freeI (m := m1) (ps := ps1) (row := rA) (a := a)
  have e' := mem_freeI (m := m1) (ps := ps) (row := r) (a := a)
  unfold freeI at e e'
  rw [List.mem_filter, mem_upto, and_congr_right_iff] at e e'
  refine Bool.eq_iff_iff.mpr ((e' b).trans (Iff.trans ?_ (e b).symm))
  refine and_congr (not_congr (B.a a b.1 b.2)) ⟨fun k c mc => ?_, fun k c mc => ?_⟩
  · have q := h.i1 _ mc
    exact (B.a c q.1 q.2.1).mp (k c ((h.mem _).mpr (.inl mc)))
  · rcases (h.mem _).mp mc with mc | mc | mc
    · have q := h.i1 _ mc
      exact (B.a c q.1 q.2.1).mpr (k c mc)
    · obtain ⟨⟨u, v⟩, mu, eu⟩ := List.mem_map.mp mc
      have q := h.i2 _ mu
      have e2 : v + (m1 : Int) = a := congrArg Prod.snd eu
      simp only at q
      omega
    · simp only at mc
      omega
theorem Behind.freeB {m1 m2 : Nat} {ps1 ps2 ps : List Pr} (h : Behind m1 m2 ps1 ps2 ps) {r rA rB : List Int} (B : Both m1 m2 r rA rB) (l : lv m1 rA = 0) : freeI (m1 + m2) ps r = (freeI m2 ps2 rB).map (· + (m1 : Int)) := by
  unfold freeI
  rw [upto_add, List.filter_append, List.filter_map]
  have e0 : (upto m1).filter (canI ps r) = [] := List.eq_nil_iff_forall_not_mem.mpr fun a ma => by
    obtain ⟨m3, m4⟩ := List.mem_filter.mp ma
    have b := mem_upto.mp m3
    have c := mem_freeI.mp (show a ∈ freeI m1 ps r from ma)
    exact c.2.1 ((B.a a b.1 b.2).mpr (lv_zero l b))
  rw [e0, List.nil_append]
  congr 1
  refine List.filter_congr fun a ma => ?_
  have b := mem_upto.mp ma
  have e := mem_freeI (m := m2) (ps := ps2) (row := rB) (a := a)
  have e' := mem_freeI (m := m1 + m2) (ps := ps) (row := r) (a := a + m1)
  unfold freeI at e e'
  rw [List.mem_filter, mem_upto, and_congr_right_iff] at e e'
  refine Bool.eq_iff_iff.mpr ((e' (by omega)).trans (Iff.trans ?_ (e b).symm))
  refine and_congr (not_congr (B.b a b.1 b.2)) ⟨fun k c mc => ?_, fun k c mc => ?_⟩
  · have q := h.i2 _ mc
    exact (B.b c q.1 q.2.1).mp (k _ ((h.mem _).mpr (.inr (.inl (List.mem_map.mpr ⟨_, mc, rfl⟩)))))
  · rcases (h.mem _).mp mc with mc | mc | mc
    · have q := h.i1 _ mc
      simp only at q
      omega
    · obtain ⟨⟨u, v⟩, mu, eu⟩ := List.mem_map.mp mc
      have q := h.i2 _ mu
      have e1 : u + (m1 : Int) = c := congrArg Prod.fst eu
      have e2 : v + (m1 : Int) = a + m1 := congrArg Prod.snd eu
      have e3 : v = a := by omega
      subst e3
      rw [← e1]
      exact (B.b u q.1 q.2.1).mpr (k u mu)
    · simp only at mc
      exact (B.a c mc.1 mc.2.1).mpr (lv_zero l ⟨mc.1, mc.2.1⟩)
theorem behind_cntB {m1 m2 : Nat} {ps1 ps2 ps : List Pr} (h : Behind m1 m2 ps1 ps2 ps) : ∀ (j : Nat) (r rA rB : List Int), lv m1 rA = 0 → Both m1 m2 r rA rB → cnt (m1 + m2) ps j r = cnt m2 ps2 j rB
  | 0, _, _, _, _, _ => rfl
  | j + 1, r, rA, rB, hi, B => by
    rw [cnt_succ, cnt_succ, h.freeB B hi, List.map_map]
    congr 1
    refine List.map_congr_left fun a ma => ?_
    have c := mem_freeI.mp ma
    exact behind_cntB h j _ rA (rB ++ [a]) hi (B.putB c.1.1)
theorem behind_cnt {m1 m2 : Nat} {ps1 ps2 ps : List Pr} (h : Behind m1 m2 ps1 ps2 ps) (j : Nat) : ∀ (i : Nat) (r rA rB : List Int), lv m1 rA = i → Both m1 m2 r rA rB → cnt (m1 + m2) ps (i + j) r = cnt m1 ps1 i rA * cnt m2 ps2 j rB
  | 0, r, rA, rB, hi, B => by
    rw [Nat.zero_add, behind_cntB h j r rA rB hi B]
    show _ = 1 * _
    rw [Nat.one_mul]
  | i + 1, r, rA, rB, hi, B => by
    rw [show i + 1 + j = (i + j) + 1 by omega, cnt_succ, cnt_succ, h.freeA B (by omega), ← sum_mul_right]
    congr 1
    refine List.map_congr_left fun a ma => ?_
    have c := mem_freeI.mp ma
    have l := lv_put c.1 c.2.1
    exact behind_cnt h j i _ (rA ++ [a]) rB (by omega) (B.putA c.1.2)
theorem Behind.all {m1 m2 : Nat} {ps1 ps2 ps : List Pr} (h : Behind m1 m2 ps1 ps2 ps) : (ordersL (m1 + m2) ps).length = (ordersL m1 ps1).length * (ordersL m2 ps2).length :=
  behind_cnt h m2 m1 [] [] [] (lv_nil _) (both_nil _ _)
/-! ### the law's own number of riffles -/
theorem rif_step : ∀ a k : Nat, a ≤ 4 → k < 4 → bin (a + k) k * (a + (k + 1)) / (k + 1) = bin (a + (k + 1)) (k + 1) := by
  intro a k ha hk
  have : ∀ a ∈ List.range 5, ∀ k ∈ List.range 4, bin (a + k) k * (a + (k + 1)) / (k + 1) = bin (a + (k + 1)) (k + 1) := by decide
  exact this a (List.mem_range.mpr (by omega)) k (List.mem_range.mpr hk)
theorem rif_end : ∀ a k : Nat, a ≤ 4 → k ≤ 4 → bin (a + k) k = bin (a + k) a := by
  intro a k ha hk
  have : ∀ a ∈ List.range 5, ∀ k ∈ List.range 5, bin (a + k) k = bin (a + k) a := by decide
  exact this a (List.mem_range.mpr (by omega)) k (List.mem_range.mpr (by omega))
theorem rif_small : ∀ a k : Nat, a ≤ 4 → k ≤ 4 → bin (a + k) k ≤ 70 := by
  intro a k ha hk
  have : ∀ a ∈ List.range 5, ∀ k ∈ List.range 5, bin (a + k) k ≤ 70 := by decide
  exact this a (List.mem_range.mpr (by omega)) k (List.mem_range.mpr (by omega))
end Ev

namespace Ev
open PySem PySem.Spec PyProof.Rows L2
section
variable {prog : Program} {w : World} {A : Around} {E : Value → Shared → Prop} {s : Shared}
/-- the items of a tuple, taken into a new list -/
theorem take_tup {l : Addr} {vs : List Value} {Q : List Value → Shared → Prop} (hl : s.heap.IsTuple l vs.toArray) (hz : vs.length ≤ sizeLine)
    (h : Q vs { s with heap := (s.heap.push (seqObj "list" #[] 0)).update s.heap.objs.size (Obj.mapSeq (· ++ vs.toArray)) }) :
    wpAny (model prog w) A (collect (.ref l)) Q E s := by
  obtain ⟨o, ho, hc, n, hd⟩ := id hl
  unfold collect
  refine wpAny_bind (wpAny_runValue (codeAny_builtin entry_proto_collect' ?_))
  show wpAny _ _ (do again (.builtin "list.__iadd__" ⟨[← newList [], .ref l], []⟩)) _ _ s
  refine wpAny_bind (wpAny_newList (wpAny_pure ⟨Code.quiet_builtin _ (by decide +kernel), codeAny_builtin entry_list_iadd' ?_⟩))
  show wpAny _ _ (Builtin.List.listExtendWith (.ref s.heap.objs.size) (.ref l) (.ref s.heap.objs.size)) _ _ { s with heap := s.heap.push (seqObj "list" #[] 0) }
  have ol : (s.heap.push (seqObj "list" #[] 0)).get? l = some o := Heap.get?_push_of_some _ ho
  have nl : (s.heap.push (seqObj "list" #[] 0)).get? s.heap.objs.size = some (seqObj "list" #[] 0) := Heap.get?_push_size _ rfl
  unfold Builtin.List.listExtendWith
  refine wpAny_bind (wpAny_typeOf (T := "tuple") ⟨o, ol, hc⟩ ?_)
  rw [if_pos (by rw [show (Value.type "tuple" == Value.type "tuple") = true from rfl]; simp)]
  refine wpAny_bind (listItems_at ol hd (wpAny_bind (listItems_at (xs := #[]) (n := 0) nl rfl ?_)))
  rw [if_neg (by simp)]
  refine wpAny_bind (listUpdate_at (xs := #[]) (n := 0) nl rfl (wpAny_pure ?_) (Nat.zero_le _) (by show (#[] ++ vs.toArray).size ≤ sizeLine + 1; simp only [Array.size_append, List.size_toArray, List.length_nil]; omega))
  refine wpAny_bind (m := load s.heap.objs.size) (wpAny_load (get?_update_seq nl _) ?_)
  show wpAny _ _ (pure ((#[] : Array Value) ++ vs.toArray).toList) Q E _
  rw [show ((#[] : Array Value) ++ vs.toArray).toList = vs by simp]
  exact wpAny_pure h
open Srt SrtO in
theorem sorted_tupI {l : Addr} {vs : List Value} {ns : List Int} {Q : Value → Shared → Prop} (hl : s.heap.IsTuple l vs.toArray) (hI : IntsAre vs ns) (hz : vs.length ≤ sizeLine)
    (h : ∀ out : List Value, Srtd ltIv out → Stb ltIv out vs → Q (.ref (s.heap.objs.size + 1)) { s with heap := sortedAll s.heap vs out.toArray }) :
    wpAny (model prog w) A (call (.builtin "sorted") [.ref l]) Q E s := by
  refine Calls.call_function_entry kind_sorted plain_sorted entry_sorted (args_sorted1 _) ?_
  unfold Builtin.«sorted»
  refine wpAny_bind (m := checkCount "sorted" 1 1 _) (wpAny_pure (wpAny_bind (take_tup hl hz (wpAny_bind (wpAny_newList ?_ hz)))))
  generalize hh : (s.heap.push (seqObj "list" #[] 0)).update s.heap.objs.size (Obj.mapSeq (· ++ vs.toArray)) = h1
  have z1 : h1.objs.size = s.heap.objs.size + 1 := by rw [← hh, Heap.size_update, size_push']
  have hoL : (h1.push (seqObj "list" vs.toArray 0)).get? (s.heap.objs.size + 1) = some (seqObj "list" vs.toArray 0) := by
    rw [← z1]
    exact Heap.get?_push_size _ rfl
  show wpAny _ _ _ _ _ { s with heap := h1.push (seqObj "list" vs.toArray 0) }
  rw [z1]
  refine wpAny_bind (wpAny_holding (wpAny_call_entry slot_list_sort ⟨_, hoL, rfl⟩ entry_list_sort (list_sort_ord swo_int hoL hz (fun h2 => ints_sortable hI h2) fun out a b => ⟨_, rfl, wpAny_pure ⟨_, rfl, ?_⟩⟩) (args_list_sort _)))
  have q := h out a b
  unfold sortedAll at q
  rw [hh] at q
  exact q
end
section
variable {X : Cx}
/-- sorted(xs), xs a tuple of ints -/
def rSortTI (K : PySem.W.Frag) : List V → Hp → VK → Prop := fun vs H Q => ∃ (a : Addr) (ns : List Int), vs = [V.ref a] ∧ SqT K H a (ns.map V.int) ∧
  ∀ (ns' : List Int) (p : Addr), ns'.Perm ns → ns'.Pairwise (· ≤ ·) → H p = none → Q (.ref p) (upd H p (.lst (ns'.map V.int)))
theorem cr_sortTI : CallR X (.builtin "sorted") (rSortTI X.K) := by
  intro pins s σ H vs us Q I r h
  obtain ⟨a, ns, rfl, hs, q⟩ := h
  obtain ⟨its, rv, hl, hz⟩ := I.tuple hs
  rw [Vals.ref1 r]
  have hi := rv.ints
  refine sorted_tupI hl hi (by rw [← rv.length]; exact hz) fun out h1 h2 => ?_
  obtain ⟨k1, k2, k3⟩ := SrtO.ints_out hi h1 h2
  obtain ⟨ep, he'⟩ := PyProof.Rows.sortedAll_at s.heap its out.toArray
  have hlen : ((out.map SrtO.iv).map V.int).length ≤ sizeLine := by
    rw [List.length_map, k2.length_eq]
    rw [List.length_map] at hz
    exact hz
  exact ⟨.ref _, upd H (s.heap.objs.size + 1) (.lst ((out.map SrtO.iv).map V.int)), I.laid (t' := s.toks) (fun _ _ => PyProof.Rows.sortedAll_old) (Nat.le_succ _) ⟨hlen, out, ep, vals_of_ints k1, he'⟩, rfl, q _ _ k2 k3 (I.hok.fresh (Nat.le_succ _))⟩
end
/-! ### enumerate(xs), xs a tuple -/
def Iet (K : PySem.W.Frag) (a : Addr) : It :=
  ⟨fun i H => ∃ (xs : List V) (x : V), SqT K H a xs ∧ xs[i]? = some x, fun i H v H' => ∃ T x, v = .ref T ∧ H T = none ∧ H' = upd H T (.tup [.int (i : Nat), x]) ∧ ∀ xs, SqT K H a xs → xs[i]? = some x, fun i H => ∃ xs : List V, SqT K H a xs ∧ xs.length = i⟩
theorem enum_new_tup (l : Addr) (items : Array Value) :
    Meets (Builtin.«enumerate.__new__» ⟨[.type "enumerate", .ref l], []⟩) (fun _ R s => s.heap.IsTuple l items ∧
      R (.ok (.ret (.ref (s.heap.push { cls := .type "tuple_iterator", data := .fields #[.ref l, .int 0 0] }).objs.size)))
        { s with heap := (s.heap.push { cls := .type "tuple_iterator", data := .fields #[.ref l, .int 0 0] }).push { cls := .type "enumerate", data := .fields #[.none, .bool false, .ref s.heap.objs.size, rawInt 0, .none, .none] } }) :=
  .of_wp fun prog w A R s h => by
    obtain ⟨hp, g, d, tk, os⟩ := s
    obtain ⟨h1, h⟩ := h
    have hsub := sub_enumerate
    have go : ∀ {A' : Around} {E : Value → Shared → Prop} {Q : Value → Shared → Prop}, Q (.ref hp.objs.size) ⟨hp.push { cls := .type "tuple_iterator", data := .fields #[.ref l, .int 0 0] }, g, d, tk, os⟩ →
        wpAny (model prog w) A' (pyIter (.ref l)) Q E ⟨hp, g, d, tk, os⟩ := fun q => wpAny_pyIter_tuple (show Heap.IsTuple (Shared.heap ⟨hp, g, d, tk, os⟩) l items from h1) q
    wp_walk using go
    refine wpAny_stack_any fun st => wpAny_pure ?_
    split
    · rename_i c _ _ _ _ _
      cases (c == Value.type "enumerate") <;> (wp_walk using go; exact ⟨_, rfl, h⟩)
    · wp_walk using go
      exact ⟨_, rfl, h⟩
theorem call_enum_tup {prog : Program} {w : World} {A : Around} {E : Value → Shared → Prop} {s : Shared} {l : Addr} {items : Array Value} {Q : Value → Shared → Prop} (hL : s.heap.IsTuple l items)
    (h : ∀ h', IsEnum h' (s.heap.objs.size + 1) s.heap.objs.size 0 .none → h'.IsTupleIter s.heap.objs.size l 0 → h'.objs.size = s.heap.objs.size + 2 →
      (∀ b o, s.heap.get? b = some o → h'.get? b = some o) → Q (.ref (s.heap.objs.size + 1)) { s with heap := h' }) :
    wpAny (model prog w) A (call (.type "enumerate") [.ref l]) Q E s := by
  refine callType_new F.called_enumerate (by decide) (F.typeCall_enumerate_1 _) (F.newCall_enumerate_1 _) (fun obj => F.args_object_init_2 obj _) F.entry_enumerate_new
    (enum_new_tup l items) ⟨hL, ?_⟩
  generalize hi : s.heap.push { cls := .type "tuple_iterator", data := .fields #[.ref l, .int 0 0] } = h1
  have z : h1.objs.size = s.heap.objs.size + 1 := by rw [← hi]; exact Heap.size_push ..
  have i1 : h1.get? s.heap.objs.size = some { cls := .type "tuple_iterator", data := .fields #[.ref l, .int 0 0] } := by rw [← hi]; exact Heap.get?_push_size _ rfl
  show _ ∧ _
  rw [z]
  have he := Heap.get?_push_size h1 (o := { cls := .type "enumerate", data := .fields #[.none, .bool false, .ref s.heap.objs.size, rawInt 0, .none, .none] }) rfl
  rw [z] at he
  exact ⟨⟨_, he, rfl⟩, h _ he ⟨_, Heap.get?_push_of_some _ i1, rfl, rfl⟩ (by rw [Heap.size_push, z]) fun b o x => Heap.get?_push_of_some _ (by rw [← hi]; exact Heap.get?_push_of_some _ x)⟩
theorem turn_enumT {P : Program} {w : World} {K : PySem.W.Frag} {elts : List Expr} {kk : Nat} {tpos : Pos} (a e it : Addr) :
    Turn P w K (.Tuple elts kk tpos) (Iet K a) [e, it] e (fun i h => (∃ old, IsEnum h e it ((i : Nat) : Int) old) ∧ h.IsTupleIter it a i ∧ e ≠ it ∧ e ≠ a ∧ it ≠ a) where
  mem := by simp
  obj := fun i h st b hb => by
    obtain ⟨⟨old, he⟩, ⟨o, ho, hc, hd⟩, _⟩ := st
    rcases (show b = e ∨ b = it by simpa using hb) with z | z
    · rw [z]; exact ⟨_, he, fun v q => nomatch q⟩
    · rw [z]; exact ⟨o, ho, fun v q => by rw [hd] at q; cases q⟩
  keep := fun i h h' st k => let ⟨⟨old, he⟩, hi, hne⟩ := st; ⟨⟨old, k e (by simp) _ he⟩, hi.at fun o q => k it (by simp) o q, hne⟩
  item := by
    intro X hP hw hK hc i pins s σ H E I hf st hg
    subst hP hw hK
    obtain ⟨⟨old, he⟩, hit, hne, hea, hia⟩ := st
    obtain ⟨xs, x, hq, hx⟩ := hg
    obtain ⟨its, rv, p, hz⟩ := I.tuple hq
    obtain ⟨u, hu, ru⟩ := rv.get hx
    have hel : e < s.heap.objs.size := Heap.lt_size he
    have hil : it < s.heap.objs.size := by obtain ⟨_, q, _⟩ := hit; exact Heap.lt_size q
    have lt : i < its.toArray.size := by
      have := (List.getElem?_eq_some_iff.mp hu).1
      simpa using this
    refine wpAny_pyNext_enum_itemC (D := Draws.tuple (A := X.A.in1) (I.ok.hd hc) it a (Ne.symm hia) its.toArray) he ⟨hit, p⟩ lt hne (by simp [hne, hea]) fun y h' tk hy ho hit' hT hsz hk => ?_
    have ey : y = u := by
      have q : its[i]? = some y := by simpa using hy
      rw [hu] at q
      exact (Option.some.inj q).symm
    subst ey
    refine ⟨_, rfl, wpAny_letOwnedTupleGo_enum (s := { s with heap := h', toks := tk + 1 }) ho fun h'' he' sb => ?_⟩
    have hT2 : h''.get? s.heap.objs.size = some { cls := .type "tuple", data := .seq #[.int i tk, y] } := (sb.2 _ (Nat.ne_of_gt hel)).trans hT
    have new : ObjOk X.prog X.w (upd H s.heap.objs.size (.tup [.int (i : Nat), x])) h'' s.heap.objs.size (.tup [.int (i : Nat), x]) :=
      ⟨by show 2 ≤ sizeLine; decide, [.int i tk, y], .cons ⟨_, rfl⟩ (.cons ru .nil), ⟨_, hT2, rfl, _, rfl⟩⟩
    have I1 : Inv X pins σ (upd H s.heap.objs.size (.tup [.int (i : Nat), x])) { s with heap := h'', toks := tk + 1 } :=
      I.turnedNew (ch := [e, it]) (fun b ob hb q => (sb.2 b (fun z => hb (by simp [z]))).trans (hk b ob (fun z => hb (by simp [z])) (fun z => hb (by simp [z])) q)) hf (Nat.le_refl _) new
    refine ⟨.ref s.heap.objs.size, _, I1, rfl, ⟨_, x, rfl, I.hok.fresh (Nat.le_refl _), rfl, fun ys hy => by rw [I.tuple_inj hy hq]; exact hx⟩, ⟨⟨y, ?_⟩, hit'.1.at fun o q => (sb.2 it (Ne.symm hne)).trans q, hne, hea, hia⟩, fun b hb => ?_⟩
    · rw [show ((i + 1 : Nat) : Int) = (i : Int) + 1 by omega]
      exact he'
    · have hb' : b < s.heap.objs.size := by
        rcases (show b = e ∨ b = it by simpa using hb) with z | z
        · rw [z]; exact hel
        · rw [z]; exact hil
      rw [upd_ne (Nat.ne_of_lt hb')]
      exact (hf b hb).1
  done := by
    intro X hP hw hK hc i pins s σ H E I hf st hg
    subst hP hw hK
    obtain ⟨⟨old, he⟩, hit, hne, hea, hia⟩ := st
    obtain ⟨xs, hq, hx⟩ := hg
    obtain ⟨its, rv, p, hz⟩ := I.tuple hq
    obtain ⟨f0, f1, f2, f3, f4, f5⟩ := hf it (by simp)
    have hl := rv.length
    subst hx
    have sz : its.toArray.size = xs.length := by rw [hl]; simp
    refine wpAny_pyNext_enum_endD (n := its.toArray.size) (D := Draws.tuple (A := X.A.in1) (I.ok.hd hc) it a (Ne.symm hia) its.toArray) he ⟨by rw [sz]; exact hit, p⟩ fun h' eb => ⟨rfl, I.turned (t' := s.toks) (fun b o hb q => eb b o hb q) f0 f1 f3 f4 f5⟩
  self := fun A i s Q E st h => let ⟨⟨_, he⟩, _⟩ := st; wpAny_pyIter_enum he h
def iEnumT (K : PySem.W.Frag) (ta : TA) : TI := fun σ H R => ta σ H fun vs H1 => ∃ a xs, vs = [.ref a] ∧ SqT K H1 a xs ∧ R (Iet K a) H1
theorem pi_enumT {X : Cx} {e : Expr} {ta : TA} {p pos tpos : Pos} {elts : List Expr} {kk : Nat} (hg : Gl X "enumerate") (hm : X.mg "enumerate" = none) (ha : PA X [e] ta) (hs : starEach [e] X.env = [(false, eval e X.env)] := by rfl) :
    PI X (.Tuple elts kk tpos) (.Call (.Name "enumerate" p) [e] [] pos) (iEnumT X.K ta) := by
  refine ⟨fun pins s σ H R I h => Call_ (ld_blt I hg hm boot_enumerate (PyProof.Rows.callWith_type1 (thn (ha.run pos pins s σ H _ I h) fun us s1 ⟨vs, H1, I1, r1, q1⟩ => ?_) hs rfl))⟩
  obtain ⟨a, xs, rfl, hq, q⟩ := q1
  cases r1 with
  | cons r rr =>
    cases rr
    cases r
    obtain ⟨its, rv, p', hz⟩ := I1.tuple hq
    have lt : a < s1.heap.objs.size := by obtain ⟨_, y, _⟩ := p'; exact Heap.lt_size y
    refine call_enum_tup (items := its.toArray) p' fun h' he hit hsz hk => wpAny_pyIter_enum he ?_
    refine ⟨s1.heap.objs.size + 1, [s1.heap.objs.size + 1, s1.heap.objs.size], _, _, H1, rfl, I1.kept (t' := s1.toks) hk, turn_enumT a (s1.heap.objs.size + 1) s1.heap.objs.size, ⟨⟨.none, he⟩, hit, Nat.succ_ne_self _, Nat.ne_of_gt (Nat.lt_succ_of_lt lt), Nat.ne_of_gt lt⟩, fun b hb => ?_, q⟩
    have hle : s1.heap.objs.size ≤ b := by
      rcases (show b = s1.heap.objs.size + 1 ∨ b = s1.heap.objs.size by simpa using hb) with z | z
      · rw [z]; exact Nat.le_add_right _ _
      · rw [z]; exact Nat.le_refl _
    exact I1.fpOk hle (I1.hok.fresh hle)
/-- {x: at for at, x in enumerate(xs)} and the like: a walk of turns told one by one -/
theorem dc_enumT {K : PySem.W.Frag} {a : Addr} {xs : List V} {g : TG} {tt : TT} {tk tv : TE} {vs : List Nat} {σ : L2.St} {H1 : Hp} {D : Addr} {Qd : Hp → Prop} (Pv : Nat → Hp → Prop) (h0 : Pv 0 (upd H1 D (.dK []))) (hl : ∀ i H, Pv i H → SqT K H a xs)
    (hs : ∀ i x H T, xs[i]? = some x → Pv i H → H T = none → g (.ref T) (wipe σ vs) (upd H T (.tup [.int (i : Nat), x])) fun σ2 H2 => wipe σ2 vs = wipe σ vs ∧ tt σ2 H2 fun b H3 =>
      if b = true then tk σ2 H3 fun y H4 => tv σ2 H4 fun z H5 => ∃ kvs k, y = kV k ∧ H5 D = some (.dK kvs) ∧ kvs.length < sizeLine ∧ Pv (i + 1) (upd H5 D (.dK (putK kvs k z))) else Pv (i + 1) H3) (hd : ∀ H, Pv xs.length H → Qd H) :
    ∃ W : Nat → Nat → Hp → Prop, (∃ m, W 0 m (upd H1 D (.dK []))) ∧ ∀ i m H, W i m H →
      ((Iet K a).stop i H ∧ Qd H) ∨ ((Iet K a).go i H ∧ ∃ Nx : Hp → Prop, (∀ H', Nx H' → ∃ m', m' < m ∧ W (i + 1) m' H') ∧ ∀ x H', (Iet K a).yld i H x H' → g x (wipe σ vs) H' fun σ2 H2 => wipe σ2 vs = wipe σ vs ∧ tt σ2 H2 fun b H3 =>
        if b = true then tk σ2 H3 fun y H4 => tv σ2 H4 fun z H5 => ∃ kvs k, y = kV k ∧ H5 D = some (.dK kvs) ∧ kvs.length < sizeLine ∧ Nx (upd H5 D (.dK (putK kvs k z))) else Nx H3) := by
  refine ⟨fun i m H => m = xs.length - i ∧ i ≤ xs.length ∧ Pv i H, ⟨xs.length, by simp, Nat.zero_le _, h0⟩, ?_⟩
  rintro i m H ⟨rfl, hi, p⟩
  have q := hl i H p
  by_cases hlt : i < xs.length
  · refine .inr ⟨⟨xs, xs[i], q, by simp [hlt]⟩, Pv (i + 1), fun H' p' => ⟨xs.length - (i + 1), by omega, rfl, hlt, p'⟩, fun y H' hy => ?_⟩
    obtain ⟨T, x, rfl, nT, rfl, e⟩ := hy
    exact hs i x H T (e xs q) p nT
  · obtain rfl : i = xs.length := by omega
    exact .inl ⟨⟨xs, q, rfl⟩, hd H p⟩
end Ev
namespace Ev
open PySem PySem.Spec PyProof.Rows L2
section
variable {X : Cx}
/-- xs.index(k), xs a tuple of ints -/
def rTupIx (K : PySem.W.Frag) : V → List V → Hp → VK → Prop := fun x xs H Q => ∃ (p : Addr) (ns : List Int) (k : Int), x = .ref p ∧ xs = [.int k] ∧ SqT K H p (ns.map V.int) ∧ k ∈ ns ∧ Q (.int (ns.idxOf k : Nat)) H
theorem mt_tupIx : MtR X "tuple.index" (rTupIx X.K) := by
  intro pins s σ H x xs v us Q I rx rs h
  obtain ⟨p, ns, k, rfl, rfl, hq, hk, q⟩ := h
  cases rx
  obtain ⟨u, rfl, t, rfl⟩ := vals1 rs
  obtain ⟨its, r, pl, hz⟩ := I.tuple hq
  exact SeqAt.tuple_index_ints pl r.ints hk ⟨.int (ns.idxOf k : Nat), H, I.tok _, ⟨_, rfl⟩, q⟩
/-- tuple(xs), xs a list: the new one as it stands -/
theorem call_tuple_frz : CallR X (.type "tuple") (fun xs H Q => ∃ p ys, xs = [.ref p] ∧ SqL X.K H p ys ∧ ∀ l o, H l = none → o.cls = .type "tuple" → o.dict = none → Q (.ref l) (upd H l (.frz o (.tup ys)))) := by
  intro pins s σ H xs us Q I r h
  obtain ⟨p, ys, rfl, hq, q⟩ := h
  obtain ⟨u, rfl, rx⟩ := vals1 r
  cases rx
  obtain ⟨its, r', pl, hz⟩ := I.list hq
  have hlen := r'.length
  refine call_tuple_list pl.isList (fun h' kp => ?_) (by simp only [List.size_toArray] <;> omega)
  have I1 : Inv X pins σ H { s with heap := h' } := I.kept (t' := s.toks) kp
  have I2 := I1.laid (t' := s.toks) (h' := h'.push { cls := .type "tuple", data := .seq its.toArray }) (fun b o e => Heap.get?_push_of_some _ e) (Nat.le_refl _)
    (show ObjOk X.prog X.w _ _ _ (.frz { cls := .type "tuple", data := .seq its.toArray } (.tup ys)) from ⟨Heap.get?_push_size _ rfl, hz, its, r', IsTup.new _ _⟩)
  exact ⟨.ref h'.objs.size, _, I2, rfl, q _ _ (I1.hok.fresh (Nat.le_refl _)) rfl rfl⟩
/-- a method of a tuple that stands so -/
def tBMF (r : V → List V → Hp → VK → Prop) (to : TE) (t : TA) : TE := fun σ H Q => to σ H fun x H1 => (∃ p o xs, x = .ref p ∧ H1 p = some (.frz o (.tup xs)) ∧ o.cls = .type "tuple" ∧ o.dict = none) ∧ t σ H1 fun xs H2 => r x xs H2 Q
theorem pe_bmF {o e : Expr} {es : List Expr} {to : TE} {t : TA} {name : Str} {apos cpos : Pos} {id : String} {r : V → List V → Hp → VK → Prop} (pa : PlainAttrs "tuple") (slot : Slot "tuple" name id) (hty : typeOf (.builtin id) = pure (.type "method_descriptor")) (hm : MtR X id r) (ho : PE X o to) (ha : PA X (e :: es) t)
    (hbase : attributeBase o name X.env (eval o X.env) = eval o X.env := by rfl)
    (hfew : ((backTo cpos (starEach (e :: es) X.env)).all (fun x => !x.1) && (backToKw cpos (keywordEach [] X.env)).all (fun x => x.1.isSome)
      && decide ((e :: es).length + ([] : List Keyword).length + (if ([] : List Keyword).isEmpty then 0 else 1) < 30)) = true := by rfl)
    (hline : (apos.endLine == cpos.line) = true := by rfl) (hs : starEach (e :: es) X.env = (false, eval e X.env) :: starEach es X.env := by rfl) (hplain : (backTo cpos (starEach es X.env)).any (·.1) = false := by rfl) :
    PE X (.Call (.Attribute o name apos) (e :: es) [] cpos) (tBMF r to t) := by
  refine ⟨fun pins s σ H Q I h => wpAny_Call_method_late hbase hfew hline rfl (thn (ho.run pins s σ H _ I h) fun v s1 ⟨x, H1, I1, r1, ⟨p, ob, xs, hx, hf, hc, hd⟩, q1⟩ => ?_)⟩
  subst hx
  have r1' := r1
  cases r1'
  have g : s1.heap.get? p = some ob := (I1.hok p _ hf).1
  have hA := ha.run cpos pins s1 σ H1 _ I1 q1
  rw [hs] at hA ⊢
  refine ⟨"tuple", id, pa, slot, hty, ⟨ob, g, hc⟩, fun a e => by cases e; exact ⟨ob, g, hd⟩, Calls.callWith_builtin (by show (false || (backTo cpos (starEach es X.env)).any (·.1)) = false; rw [hplain] <;> rfl) (Calls.evalArgs_plain (thn hA fun us s2 ⟨vs, H2, I2, r2, q2⟩ => ?_))⟩
  exact hm pins s2 σ H2 _ vs _ us Q I2 r1 r2 q2
end
end Ev

namespace Ev
open PySem L2
open C8 (pss_cut tCut InsC)
/-! ### befores that are all told -/
def Trn (ps : List Pr) : Prop := ∀ a b c, (a, b) ∈ ps → (b, c) ∈ ps → (a, c) ∈ ps
theorem Trn.tc {ps : List Pr} (h : Trn ps) {a b : Int} (k : Tc ps a b) : (a, b) ∈ ps := k.ind (R := fun a b => (a, b) ∈ ps) (fun _ _ m => m) fun a b c x y => h a b c x y
theorem Cl.same {ps qs : List Pr} (h : Cl ps qs) (t : Trn ps) : ∀ p, p ∈ qs ↔ p ∈ ps := fun ⟨a, b⟩ => ⟨fun m => t.tc ((h.mem a b).mp m), fun m => h.sub _ m⟩
theorem RowsOk.cl {m : Nat} {ps : List Pr} (h : RowsOk m ps) : Cl ps ps := ⟨h.asc, fun a b => ⟨.one, fun k => (show Trn ps from h.tr).tc k⟩⟩
/-- pairs under other names, g the way back -/
theorem UpsOk.move {ps qs : List Pr} (h : UpsOk ps) (g : Int → Int) (b : In 8 qs) (k : ∀ p ∈ qs, (g p.1, g p.2) ∈ ps) : UpsOk qs := by
  obtain ⟨r, u⟩ := h.up
  exact ⟨b, fun a => r (g a), fun a c m => u.up _ _ (k _ m), fun a c m => u.top _ _ (k _ m)⟩
theorem Trn.move {ps qs : List Pr} (h : Trn ps) (g : Int → Int) (k : ∀ a b c, (a, b) ∈ qs → (b, c) ∈ qs → (g a, g c) ∈ ps → (a, c) ∈ qs) (l : ∀ p ∈ qs, (g p.1, g p.2) ∈ ps) : Trn qs :=
  fun a b c x y => k a b c x y (h _ _ _ (l _ x) (l _ y))
theorem Trn.swap {ps : List Pr} (h : Trn ps) : Trn (ps.map swp) := fun a b c x y => by
  obtain ⟨⟨p1, p2⟩, mp, e⟩ := List.mem_map.mp x
  obtain ⟨⟨q1, q2⟩, mq, e'⟩ := List.mem_map.mp y
  cases e
  cases e'
  exact List.mem_map.mpr ⟨(q1, p2), h _ _ _ mq mp, rfl⟩
theorem mem_swap {ps : List Pr} {p : Pr} : p ∈ ps.map swp ↔ swp p ∈ ps := by
  constructor
  · intro m
    obtain ⟨q, mq, e⟩ := List.mem_map.mp m
    rw [← e]
    exact mq
  · exact fun m => List.mem_map.mpr ⟨swp p, m, rfl⟩
end Ev

namespace Ev
open PySem L2
/-! ### what the orders are -/
def Steps (m : Nat) (ps : List Pr) : List Int → List Int → Prop
  | _, [] => True
  | r, a :: tl => a ∈ freeI m ps r ∧ Steps m ps (r ++ [a]) tl
theorem mem_rows {m : Nat} {ps : List Pr} : ∀ {t : Nat} {r row : List Int}, row ∈ rowsFrom m ps t r ↔ ∃ tl, row = r ++ tl ∧ tl.length = t ∧ Steps m ps r tl
  | 0, r, row => by
    show row ∈ [r] ↔ _
    rw [List.mem_singleton]
    constructor
    · rintro rfl
      exact ⟨[], (List.append_nil _).symm, rfl, trivial⟩
    · rintro ⟨tl, rfl, h, _⟩
      rw [List.length_eq_zero_iff.mp h, List.append_nil]
  | t + 1, r, row => by
    show row ∈ (freeI m ps r).flatMap (fun a => rowsFrom m ps t (r ++ [a])) ↔ _
    rw [List.mem_flatMap]
    constructor
    · rintro ⟨a, ma, mr⟩
      obtain ⟨tl, rfl, h, st⟩ := mem_rows.mp mr
      exact ⟨a :: tl, by rw [List.append_assoc]; rfl, by rw [List.length_cons, h], ma, st⟩
    · rintro ⟨tl, rfl, h, st⟩
      cases tl with
      | nil => cases h
      | cons a tl =>
        refine ⟨a, st.1, mem_rows.mpr ⟨tl, by rw [List.append_assoc]; rfl, ?_, st.2⟩⟩
        rw [List.length_cons] at h
        omega
theorem free_nodup {m : Nat} {ps : List Pr} {r : List Int} : (freeI m ps r).Nodup := (((upto_asc m).imp fun l => by omega : (upto m).Nodup)).sublist List.filter_sublist
theorem rows_nodup {m : Nat} {ps : List Pr} : ∀ {t : Nat} {r : List Int}, (rowsFrom m ps t r).Nodup
  | 0, r => List.pairwise_singleton _ _
  | t + 1, r => by
    show ((freeI m ps r).flatMap fun a => rowsFrom m ps t (r ++ [a])).Nodup
    rw [List.Nodup, List.pairwise_flatMap]
    refine ⟨fun a _ => rows_nodup, free_nodup.imp fun {a b} ne x mx y my e => ne ?_⟩
    obtain ⟨tl, rfl, _⟩ := mem_rows.mp mx
    obtain ⟨tl', e', _⟩ := mem_rows.mp my
    rw [e', List.append_assoc, List.append_assoc] at e
    have := List.append_cancel_left e
    exact (List.cons.inj this).1.symm ▸ rfl
theorem orders_nodup {m : Nat} {ps : List Pr} : (ordersL m ps).Nodup := rows_nodup
/-- an order of a web -/
structure OrdOk (m : Nat) (ps : List Pr) (row : List Int) : Prop where
  ro : RowOk m row
  keep : ∀ a b, (a, b) ∈ ps → plc row a < plc row b
theorem plc_le {row : List Int} {a : Int} : plc row a < row.length ↔ a ∈ row := by
  unfold plc
  exact List.idxOf_lt_length_iff
theorem plc_append_in {r tl : List Int} {a : Int} (h : a ∈ r) : plc (r ++ tl) a = plc r a := by
  unfold plc
  rw [List.idxOf_append, if_pos h]
theorem plc_append_out {r tl : List Int} {a : Int} (h : a ∉ r) : plc (r ++ tl) a = plc tl a + r.length := by
  unfold plc
  rw [List.idxOf_append, if_neg h]
theorem steps_iff {m : Nat} {ps : List Pr} (bd : In m ps) : ∀ {tl r : List Int}, Steps m ps r tl ↔ (∀ a ∈ tl, (0 ≤ a ∧ a < m) ∧ a ∉ r) ∧ tl.Nodup ∧ ∀ a b, (a, b) ∈ ps → b ∈ tl → a ∈ r ∨ plc tl a < plc tl b
  | [], r => ⟨fun _ => ⟨nofun, .nil, fun _ _ _ h => nomatch h⟩, fun _ => trivial⟩
  | c :: tl, r => by
    show c ∈ freeI m ps r ∧ Steps m ps (r ++ [c]) tl ↔ _
    rw [steps_iff bd, mem_freeI, List.nodup_cons]
    constructor
    · rintro ⟨⟨hc, nc, pc⟩, h1, h2, h3⟩
      refine ⟨fun a ma => ?_, ⟨fun q => ?_, h2⟩, fun a b mp mb => ?_⟩
      · rcases List.mem_cons.mp ma with rfl | ma
        · exact ⟨hc, nc⟩
        · have := h1 a ma
          exact ⟨this.1, fun q => this.2 (List.mem_append.mpr (.inl q))⟩
      · exact (h1 c q).2 (List.mem_append.mpr (.inr List.mem_cons_self))
      · by_cases e : b = c
        · subst e
          exact .inl (pc a mp)
        · have mb : b ∈ tl := (List.mem_cons.mp mb).resolve_left e
          by_cases ar : a ∈ r
          · exact .inl ar
          · right
            have eb : plc (c :: tl) b = plc tl b + 1 := by
              unfold plc
              rw [List.idxOf_cons, show (c == b) = false by simpa using Ne.symm e]
              rfl
            by_cases ea : a = c
            · subst ea
              have : plc (a :: tl) a = 0 := by
                unfold plc
                rw [List.idxOf_cons, beq_self_eq_true]
                rfl
              omega
            · have ea' : plc (c :: tl) a = plc tl a + 1 := by
                unfold plc
                rw [List.idxOf_cons, show (c == a) = false by simpa using Ne.symm ea]
                rfl
              rcases h3 a b mp mb with h | h
              · rcases List.mem_append.mp h with h | h
                · exact absurd h ar
                · exact absurd (List.mem_singleton.mp h) ea
              · omega
    · rintro ⟨h1, ⟨nc, h2⟩, h3⟩
      have hc := h1 c List.mem_cons_self
      refine ⟨⟨hc.1, hc.2, fun a mp => ?_⟩, fun a ma => ⟨(h1 a (List.mem_cons_of_mem _ ma)).1, fun q => ?_⟩, h2, fun a b mp mb => ?_⟩
      · rcases h3 a c mp List.mem_cons_self with h | h
        · exact h
        · have : plc (c :: tl) c = 0 := by
            unfold plc
            rw [List.idxOf_cons, beq_self_eq_true]
            rfl
          omega
      · rcases List.mem_append.mp q with q | q
        · exact (h1 a (List.mem_cons_of_mem _ ma)).2 q
        · rw [List.mem_singleton.mp q] at ma
          exact nc ma
      · have e : b ≠ c := fun e => nc (e ▸ mb)
        have eb : plc (c :: tl) b = plc tl b + 1 := by
          unfold plc
          rw [List.idxOf_cons, show (c == b) = false by simpa using Ne.symm e]
          rfl
        by_cases ea : a = c
        · subst ea
          exact .inl (List.mem_append.mpr (.inr List.mem_cons_self))
        · have ea' : plc (c :: tl) a = plc tl a + 1 := by
            unfold plc
            rw [List.idxOf_cons, show (c == a) = false by simpa using Ne.symm ea]
            rfl
          rcases h3 a b mp (List.mem_cons_of_mem _ mb) with h | h
          · exact .inl (List.mem_append.mpr (.inl h))
          · exact .inr (by omega)
theorem mem_orders {m : Nat} {ps : List Pr} (bd : In m ps) {row : List Int} : row ∈ ordersL m ps ↔ OrdOk m ps row := by
  unfold ordersL
  rw [mem_rows]
  constructor
  · rintro ⟨tl, e0, hl, st⟩
    have e0 : row = tl := e0
    subst e0
    obtain ⟨h1, h2, h3⟩ := (steps_iff bd).mp st
    refine ⟨⟨hl, h2, fun x mx => (h1 x mx).1⟩, fun a b mp => ?_⟩
    by_cases mb : b ∈ row
    · rcases h3 a b mp mb with h | h
      · cases h
      · exact h
    · exfalso
      have q := bd _ mp
      simp only at q
      have R : RowOk m row := ⟨hl, h2, fun x mx => (h1 x mx).1⟩
      -- all names are in the row
      have key : ∀ x : Int, 0 ≤ x → x < m → x ∈ row := fun x h0 h1' => by
        by_cases e : x ∈ row
        · exact e
        · exfalso
          have l := nat_nodup_len ((x :: row).map Int.toNat) (List.range m) ?_ ?_
          · rw [List.length_map, List.length_cons, hl, List.length_range] at l
            omega
          · refine List.pairwise_map.mpr (List.Pairwise.imp_of_mem (fun {a b} ma mb ne q => ne ?_) (List.nodup_cons.mpr ⟨e, h2⟩))
            have bd' : ∀ y ∈ x :: row, 0 ≤ y := fun y my => by
              rcases List.mem_cons.mp my with rfl | my
              · exact h0
              · exact (h1 y my).1.1
            have ba := bd' a ma
            have bb := bd' b mb
            omega
          · intro c hc
            obtain ⟨y, my, rfl⟩ := List.mem_map.mp hc
            rw [List.mem_range]
            rcases List.mem_cons.mp my with rfl | my
            · omega
            · have := (h1 y my).1
              omega
      exact mb (key b q.2.2.1 q.2.2.2)
  · rintro ⟨R, k⟩
    exact ⟨row, rfl, R.len, (steps_iff bd).mpr ⟨fun a ma => ⟨R.bd a ma, nofun⟩, R.nd, fun a b mp _ => .inr (k a b mp)⟩⟩
/-- the orders of a web whose befores are more -/
theorem orders_more {m : Nat} {ps qs : List Pr} (b1 : In m ps) (b2 : In m qs) {p : List Int → Bool} (h : ∀ row, OrdOk m qs row ↔ OrdOk m ps row ∧ p row = true) : (ordersL m qs).length = ((ordersL m ps).filter p).length := by
  have pm : (ordersL m qs).Perm ((ordersL m ps).filter p) := (List.perm_ext_iff_of_nodup orders_nodup (orders_nodup.sublist List.filter_sublist)).mpr fun row => by
    rw [mem_orders b2, List.mem_filter, mem_orders b1, h]
  exact pm.length_eq
theorem flt_split {α : Type} (p : α → Bool) : ∀ l : List α, (l.filter p).length + (l.filter fun x => !p x).length = l.length
  | [] => rfl
  | x :: r => by
    have ih := flt_split p r
    cases e : p x with
    | true =>
      rw [List.filter_cons_of_pos e, List.filter_cons_of_neg (by rw [e]; decide), List.length_cons, List.length_cons]
      omega
    | false =>
      rw [List.filter_cons_of_neg (by rw [e]; exact Bool.false_ne_true), List.filter_cons_of_pos (by rw [e]; rfl), List.length_cons, List.length_cons]
      omega
/-- a before more: the orders in which the one comes ahead -/
theorem ord_put {m : Nat} {ps qs : List Pr} {a b : Int} (cl : Cl (ps ++ [(a, b)]) qs) (row : List Int) : OrdOk m qs row ↔ OrdOk m ps row ∧ decide (plc row a < plc row b) = true := by
  rw [decide_eq_true_eq]
  constructor
  · rintro ⟨R, k⟩
    exact ⟨⟨R, fun x y mp => k x y (cl.sub _ (List.mem_append.mpr (.inl mp)))⟩, k a b (cl.sub _ (List.mem_append.mpr (.inr List.mem_cons_self)))⟩
  · rintro ⟨⟨R, k⟩, l⟩
    refine ⟨R, fun x y mp => ?_⟩
    refine ((cl.mem x y).mp mp).ind (R := fun x y => plc row x < plc row y) (fun x y m => ?_) (fun x y z h1 h2 => Nat.lt_trans h1 h2)
    rcases List.mem_append.mp m with m | m
    · exact k x y m
    · have e := List.mem_singleton.mp m
      cases e
      exact l
theorem orders_both {m : Nat} {ps q1 q2 : List Pr} {a b : Int} (bd : In m ps) (ab : 0 ≤ a ∧ a < m ∧ 0 ≤ b ∧ b < m) (ne : a ≠ b) (c1 : Cl (ps ++ [(a, b)]) q1) (c2 : Cl (ps ++ [(b, a)]) q2) :
    (ordersL m q1).length + (ordersL m q2).length = (ordersL m ps).length := by
  have in1 : In m (ps ++ [(a, b)]) := fun p mp => by
    rcases List.mem_append.mp mp with mp | mp
    · exact bd p mp
    · rw [List.mem_singleton.mp mp]
      exact ab
  have in2 : In m (ps ++ [(b, a)]) := fun p mp => by
    rcases List.mem_append.mp mp with mp | mp
    · exact bd p mp
    · rw [List.mem_singleton.mp mp]
      exact ⟨ab.2.2.1, ab.2.2.2, ab.1, ab.2.1⟩
  rw [orders_more bd (c1.in in1) (ord_put c1), orders_more bd (c2.in in2) (ord_put c2), ← flt_split (fun row => decide (plc row a < plc row b)) (ordersL m ps)]
  congr 2
  refine List.filter_congr fun row mr => ?_
  have R := ((mem_orders bd).mp mr).ro
  have ma : ∀ x : Int, 0 ≤ x → x < m → ∃ i : Nat, row[i]? = some x ∧ plc row x = i := fun x h0 h1 => by
    have hin : x ∈ row := by
      by_cases e : x ∈ row
      · exact e
      · exfalso
        have l := nat_nodup_len ((x :: row).map Int.toNat) (List.range m) ?_ ?_
        · rw [List.length_map, List.length_cons, R.len, List.length_range] at l
          omega
        · refine List.pairwise_map.mpr (List.Pairwise.imp_of_mem (fun {a b} ma mb ne q => ne ?_) (List.nodup_cons.mpr ⟨e, R.nd⟩))
          have bd' : ∀ y ∈ x :: row, 0 ≤ y := fun y my => by
            rcases List.mem_cons.mp my with rfl | my
            · exact h0
            · exact (R.bd y my).1
          have ba := bd' a ma
          have bb := bd' b mb
          omega
        · intro c hc
          obtain ⟨y, my, rfl⟩ := List.mem_map.mp hc
          rw [List.mem_range]
          rcases List.mem_cons.mp my with rfl | my
          · omega
          · have := R.bd y my
            omega
    obtain ⟨i, hi⟩ := List.getElem?_of_mem hin
    exact ⟨i, hi, plc_get R.nd hi⟩
  obtain ⟨i, gi, ei⟩ := ma a ab.1 ab.2.1
  obtain ⟨j, gj, ej⟩ := ma b ab.2.2.1 ab.2.2.2
  have nij : i ≠ j := fun e => by
    subst e
    rw [gi] at gj
    exact ne (Option.some.inj gj)
  rw [ei, ej]
  by_cases l : i < j
  · rw [decide_eq_true l, decide_eq_false (by omega)]
    rfl
  · rw [decide_eq_false l, decide_eq_true (by omega)]
    rfl
end Ev

namespace Ev
open PySem L2
/-! ### befores of webs put together -/
theorem flt_lt {α : Type} {p q : α → Bool} : ∀ {l : List α}, (∀ x ∈ l, p x = true → q x = true) → (∃ x ∈ l, q x = true ∧ p x = false) → (l.filter p).length < (l.filter q).length
  | [], _, h => by
    obtain ⟨x, m, _⟩ := h
    cases m
  | a :: l, h, k => by
    have le : ∀ {l : List α}, (∀ x ∈ l, p x = true → q x = true) → (l.filter p).length ≤ (l.filter q).length := by
      intro l
      induction l with
      | nil => intro _; exact Nat.le_refl _
      | cons x r ih =>
        intro h
        have ih := ih fun y my => h y (List.mem_cons_of_mem _ my)
        have hx := h x List.mem_cons_self
        cases e : p x with
        | true =>
          rw [List.filter_cons_of_pos e, List.filter_cons_of_pos (hx e), List.length_cons, List.length_cons]
          omega
        | false =>
          rw [List.filter_cons_of_neg (by rw [e]; exact Bool.false_ne_true)]
          refine Nat.le_trans ih ?_
          cases e2 : q x with
          | true =>
            rw [List.filter_cons_of_pos e2, List.length_cons]
            omega
          | false =>
            rw [List.filter_cons_of_neg (by rw [e2]; exact Bool.false_ne_true)]
            exact Nat.le_refl _
    have hl : ∀ x ∈ l, p x = true → q x = true := fun y my => h y (List.mem_cons_of_mem _ my)
    obtain ⟨x, mx, qx, px⟩ := k
    rcases List.mem_cons.mp mx with rfl | mx
    · rw [List.filter_cons_of_pos qx, List.filter_cons_of_neg (by rw [px]; exact Bool.false_ne_true), List.length_cons]
      have := le hl
      omega
    · have ih := flt_lt hl ⟨x, mx, qx, px⟩
      have ha := h a List.mem_cons_self
      cases e : p a with
      | true =>
        rw [List.filter_cons_of_pos e, List.filter_cons_of_pos (ha e), List.length_cons, List.length_cons]
        omega
      | false =>
        rw [List.filter_cons_of_neg (by rw [e]; exact Bool.false_ne_true)]
        refine Nat.lt_of_lt_of_le ih ?_
        cases e2 : q a with
        | true =>
          rw [List.filter_cons_of_pos e2, List.length_cons]
          omega
        | false =>
          rw [List.filter_cons_of_neg (by rw [e2]; exact Bool.false_ne_true)]
          exact Nat.le_refl _
def prs_ahead (m : Nat) (L : List Pr) (b : Int) : Nat := ((upto m).filter fun a => decide ((a, b) ∈ L)).length
theorem ups_of_trn {m : Nat} {L : List Pr} (bd : In m L) (m8 : m ≤ 8) (t : Trn L) (ne : ∀ p ∈ L, p.1 ≠ p.2) : UpsOk L := by
  refine ⟨bd.mono (by omega), prs_ahead m L, fun a b h => ?_, fun a b h => ?_⟩
  · refine flt_lt (fun x _ hx => ?_) ⟨a, mem_upto.mpr ?_, decide_eq_true h, decide_eq_false fun q => ne _ q rfl⟩
    · exact decide_eq_true (t _ _ _ (of_decide_eq_true hx) h)
    · have := bd _ h
      exact ⟨this.1, this.2.1⟩
  · have e : prs_ahead m L b < ((upto m).filter fun _ => true).length := by
      refine flt_lt (fun _ _ _ => rfl) ⟨b, mem_upto.mpr ?_, rfl, decide_eq_false fun q => ne _ q rfl⟩
      have := bd _ h
      exact ⟨this.2.2.1, this.2.2.2⟩
    rw [List.filter_eq_self.mpr fun _ _ => rfl, upto_length] at e
    omega
theorem mem_shf {k : Nat} {ps : List Pr} {p : Pr} : p ∈ ps.map (shf k) ↔ (p.1 - (k : Int), p.2 - (k : Int)) ∈ ps := by
  rw [List.mem_map]
  constructor
  · rintro ⟨⟨a, b⟩, m, rfl⟩
    show (a + (k : Int) - (k : Int), b + (k : Int) - (k : Int)) ∈ ps
    rwa [Int.add_sub_cancel, Int.add_sub_cancel]
  · intro m
    refine ⟨_, m, ?_⟩
    show (p.1 - (k : Int) + (k : Int), p.2 - (k : Int) + (k : Int)) = p
    rw [Int.sub_add_cancel, Int.sub_add_cancel]
theorem shf_nodup {k : Nat} {ps : List Pr} (h : ps.Nodup) : (ps.map (shf k)).Nodup := List.pairwise_map.mpr (h.imp fun {p q} ne e => ne (by
  obtain ⟨a, b⟩ := p
  obtain ⟨c, d⟩ := q
  have e1 : a + (k : Int) = c + k := congrArg Prod.fst e
  have e2 : b + (k : Int) = d + k := congrArg Prod.snd e
  exact Prod.ext (by simp only; omega) (by simp only; omega)))
section
variable {m1 m2 : Nat} {ps1 ps2 ps : List Pr}
theorem Beside.bd (h : Beside m1 m2 ps1 ps2 ps) : In ((m1 + m2 : Nat) : Int) ps := fun p mp => by
  rcases (h.mem p).mp mp with q | q
  · have := h.i1 _ q
    omega
  · have := h.i2 _ (mem_shf.mp q)
    simp only at this
    omega
theorem Beside.trn (h : Beside m1 m2 ps1 ps2 ps) (t1 : Trn ps1) (t2 : Trn ps2) : Trn ps := fun a b c x y => by
  rcases (h.mem _).mp x with x | x <;> rcases (h.mem _).mp y with y | y
  · exact (h.mem _).mpr (.inl (t1 _ _ _ x y))
  · have h1 := h.i1 _ x
    have h2 := h.i2 _ (mem_shf.mp y)
    simp only at h1 h2
    omega
  · have h1 := h.i1 _ y
    have h2 := h.i2 _ (mem_shf.mp x)
    simp only at h1 h2
    omega
  · exact (h.mem _).mpr (.inr (mem_shf.mpr (t2 (a - m1) (b - m1) (c - m1) (mem_shf.mp x) (mem_shf.mp y))))
theorem Beside.ne (h : Beside m1 m2 ps1 ps2 ps) (n1 : ∀ p ∈ ps1, p.1 ≠ p.2) (n2 : ∀ p ∈ ps2, p.1 ≠ p.2) : ∀ p ∈ ps, p.1 ≠ p.2 := fun p mp e => by
  rcases (h.mem p).mp mp with q | q
  · exact n1 _ q e
  · exact n2 _ (mem_shf.mp q) (by simp only; omega)
theorem Behind.bd (h : Behind m1 m2 ps1 ps2 ps) : In ((m1 + m2 : Nat) : Int) ps := fun p mp => by
  rcases (h.mem p).mp mp with q | q | q
  · have := h.i1 _ q
    omega
  · have := h.i2 _ (mem_shf.mp q)
    simp only at this
    omega
  · omega
theorem Behind.trn (h : Behind m1 m2 ps1 ps2 ps) (t1 : Trn ps1) (t2 : Trn ps2) : Trn ps := fun a b c x y => by
  rcases (h.mem _).mp x with x | x | x <;> rcases (h.mem _).mp y with y | y | y
  · exact (h.mem _).mpr (.inl (t1 _ _ _ x y))
  · have h1 := h.i1 _ x
    have h2 := h.i2 _ (mem_shf.mp y)
    simp only at h1 h2
    omega
  · have h1 := h.i1 _ x
    simp only at h1 y
    exact (h.mem _).mpr (.inr (.inr (by simp only; omega)))
  · have h1 := h.i1 _ y
    have h2 := h.i2 _ (mem_shf.mp x)
    simp only at h1 h2
    omega
  · exact (h.mem _).mpr (.inr (.inl (mem_shf.mpr (t2 (a - m1) (b - m1) (c - m1) (mem_shf.mp x) (mem_shf.mp y)))))
  · have h2 := h.i2 _ (mem_shf.mp x)
    simp only at h2 y
    omega
  · have h1 := h.i1 _ y
    simp only at h1 x
    omega
  · have h2 := h.i2 _ (mem_shf.mp y)
    simp only at h2 x
    exact (h.mem _).mpr (.inr (.inr (by simp only; omega)))
  · simp only at x y
    omega
theorem Behind.ne (h : Behind m1 m2 ps1 ps2 ps) (n1 : ∀ p ∈ ps1, p.1 ≠ p.2) (n2 : ∀ p ∈ ps2, p.1 ≠ p.2) : ∀ p ∈ ps, p.1 ≠ p.2 := fun p mp e => by
  rcases (h.mem p).mp mp with q | q | q
  · exact n1 _ q e
  · exact n2 _ (mem_shf.mp q) (by simp only; omega)
  · omega
end
/-! ### each name of the one and each of the other -/
def crsR (m1 m2 a : Nat) : List Pr := (List.range m2).map fun b : Nat => ((a : Int), ((m1 + b : Nat) : Int))
def crs (m1 m2 i : Nat) : List Pr := (List.range i).flatMap (crsR m1 m2)
theorem crs_succ {m1 m2 i : Nat} : crs m1 m2 (i + 1) = crs m1 m2 i ++ crsR m1 m2 i := by
  unfold crs
  rw [List.range_succ, List.flatMap_append, List.flatMap_singleton]
theorem crsR_get {m1 m2 a j : Nat} (h : j < m2) : (crsR m1 m2 a)[j]? = some ((a : Int), ((m1 + j : Nat) : Int)) := by
  unfold crsR
  rw [List.getElem?_map, List.getElem?_range h]
  rfl
theorem crsR_length {m1 m2 a : Nat} : (crsR m1 m2 a).length = m2 := by
  unfold crsR
  rw [List.length_map, List.length_range]
theorem crs_length {m1 m2 : Nat} : ∀ i, (crs m1 m2 i).length = i * m2
  | 0 => (Nat.zero_mul _).symm
  | i + 1 => by rw [crs_succ, List.length_append, Nat.succ_mul, crs_length i, crsR_length]
theorem mem_crs {m1 m2 i : Nat} {p : Pr} : p ∈ crs m1 m2 i ↔ 0 ≤ p.1 ∧ p.1 < i ∧ (m1 : Int) ≤ p.2 ∧ p.2 < (m1 : Int) + m2 := by
  unfold crs crsR
  rw [List.mem_flatMap]
  constructor
  · rintro ⟨a, ma, m⟩
    obtain ⟨b, mb, rfl⟩ := List.mem_map.mp m
    have := List.mem_range.mp ma
    have := List.mem_range.mp mb
    simp only
    omega
  · intro h
    obtain ⟨a, b⟩ := p
    simp only at h
    refine ⟨a.toNat, List.mem_range.mpr (by omega), List.mem_map.mpr ⟨(b - m1).toNat, List.mem_range.mpr (by omega), ?_⟩⟩
    refine Prod.ext ?_ ?_
    · show ((a.toNat : Nat) : Int) = a
      omega
    · show ((m1 + (b - m1).toNat : Nat) : Int) = b
      omega
theorem crs_nodup {m1 m2 : Nat} (h : m1 + m2 ≤ 8) : (crs m1 m2 m1).Nodup := by
  unfold crs
  rw [List.Nodup, List.pairwise_flatMap]
  constructor
  · intro a _
    unfold crsR
    rw [List.pairwise_map]
    refine List.pairwise_lt_range.imp fun {b c} l e => ?_
    have := congrArg Prod.snd e
    simp only at this
    omega
  · refine List.pairwise_lt_range.imp fun {a b} l x mx y my e => ?_
    unfold crsR at mx my
    obtain ⟨c, mc, rfl⟩ := List.mem_map.mp mx
    obtain ⟨d, md, rfl⟩ := List.mem_map.mp my
    have := congrArg Prod.fst e
    simp only at this
    omega
theorem beside_nodup {m1 m2 : Nat} {ps1 ps2 : List Pr} (i1 : In m1 ps1) (i2 : In m2 ps2) (n1 : ps1.Nodup) (n2 : ps2.Nodup) : (ps1 ++ ps2.map (shf m1)).Nodup := by
  refine List.nodup_append.mpr ⟨n1, shf_nodup n2, fun p mp q mq e => ?_⟩
  subst e
  have h1 := i1 _ mp
  have h2 := i2 _ (mem_shf.mp mq)
  simp only at h1 h2
  omega
theorem behind_nodup {m1 m2 : Nat} {ps1 ps2 : List Pr} (h : m1 + m2 ≤ 8) (i1 : In m1 ps1) (i2 : In m2 ps2) (n1 : ps1.Nodup) (n2 : ps2.Nodup) : (ps1 ++ ps2.map (shf m1) ++ crs m1 m2 m1).Nodup := by
  refine List.nodup_append.mpr ⟨beside_nodup i1 i2 n1 n2, crs_nodup h, fun p mp q mq e => ?_⟩
  subst e
  have h3 := mem_crs.mp mq
  rcases List.mem_append.mp mp with mp | mp
  · have h1 := i1 _ mp
    omega
  · have h2 := i2 _ (mem_shf.mp mp)
    simp only at h2
    omega
theorem beside_of {m1 m2 : Nat} {ps1 ps2 ps : List Pr} (i1 : In m1 ps1) (i2 : In m2 ps2) (h : ∀ p, p ∈ ps ↔ p ∈ ps1 ++ ps2.map (shf m1)) : Beside m1 m2 ps1 ps2 ps := ⟨i1, i2, fun p => (h p).trans List.mem_append⟩
theorem behind_of {m1 m2 : Nat} {ps1 ps2 ps : List Pr} (i1 : In m1 ps1) (i2 : In m2 ps2) (h : ∀ p, p ∈ ps ↔ p ∈ ps1 ++ ps2.map (shf m1) ++ crs m1 m2 m1) : Behind m1 m2 ps1 ps2 ps := ⟨i1, i2, fun p => by
  rw [h p, List.mem_append, List.mem_append, mem_crs, or_assoc]⟩
/-! ### the open pairs of a web, counted -/
def nrm (p : Pr) : Pr := if p.1 < p.2 then p else swp p
theorem allU_mem {m : Nat} : ∀ {i : Nat} {p : Pr}, i ≤ m → (p ∈ allU m i ↔ 0 ≤ p.1 ∧ p.1 < i ∧ p.1 < p.2 ∧ p.2 < m)
  | 0, p, _ => ⟨fun h => (nomatch h), fun h => by omega⟩
  | i + 1, p, hi => by
    rw [allU_succ, List.mem_append, allU_mem (by omega)]
    unfold rowU
    rw [List.mem_map]
    constructor
    · rintro (h | ⟨c, mc, rfl⟩)
      · omega
      · rw [List.mem_range'_1] at mc
        simp only
        omega
    · intro h
      by_cases e : p.1 = i
      · right
        refine ⟨p.2.toNat, ?_, ?_⟩
        · rw [List.mem_range'_1]
          omega
        · refine Prod.ext ?_ ?_
          · exact e.symm
          · show ((p.2.toNat : Nat) : Int) = p.2
            omega
      · left
        omega
theorem allU_nodup {m : Nat} : (allU m m).Nodup := by
  unfold allU
  rw [List.Nodup, List.pairwise_flatMap]
  constructor
  · intro a _
    unfold rowU
    rw [List.pairwise_map]
    refine (List.pairwise_lt_range' (s := a + 1) (n := m - (a + 1))).imp fun {b c} l e => ?_
    have := congrArg Prod.snd e
    simp only at this
    omega
  · refine List.pairwise_lt_range.imp fun {a b} l x mx y my e => ?_
    unfold rowU at mx my
    obtain ⟨c, mc, rfl⟩ := List.mem_map.mp mx
    obtain ⟨d, md, rfl⟩ := List.mem_map.mp my
    have := congrArg Prod.fst e
    simp only at this
    omega
theorem allU_len : ∀ (m i : Nat), i ≤ m → 2 * (allU m i).length + i * (i + 1) = 2 * (i * m)
  | m, 0, _ => by
    show 2 * 0 + 0 * 1 = 2 * (0 * m)
    rw [Nat.zero_mul, Nat.zero_mul]
  | m, i + 1, h => by
    have ih := allU_len m i (by omega)
    have e1 : (i + 1) * (i + 1 + 1) = i * (i + 1) + 2 * (i + 1) := by
      rw [Nat.mul_comm (i + 1) (i + 1 + 1), Nat.add_mul, Nat.add_mul, Nat.one_mul, Nat.two_mul]
      omega
    rw [allU_succ, List.length_append, rowU_length, Nat.succ_mul i m, e1]
    omega
theorem opn_count {m : Nat} {ps : List Pr} (bd : In m ps) (nd : ps.Nodup) (t : Trn ps) (ne : ∀ p ∈ ps, p.1 ≠ p.2) : (opnL m ps).length + ps.length = (allU m m).length := by
  have split : ∀ l : List Pr, (l.filter (opn ps)).length + (l.filter fun p => !opn ps p).length = l.length := by
    intro l
    induction l with
    | nil => rfl
    | cons x r ih =>
      cases e : opn ps x with
      | true =>
        rw [List.filter_cons_of_pos e, List.filter_cons_of_neg (by rw [e]; decide), List.length_cons, List.length_cons]
        omega
      | false =>
        rw [List.filter_cons_of_neg (by rw [e]; exact Bool.false_ne_true), List.filter_cons_of_pos (by rw [e]; rfl), List.length_cons, List.length_cons]
        omega
  have pm : (ps.map nrm).Perm ((allU m m).filter fun p => !opn ps p) := by
    refine (List.perm_ext_iff_of_nodup ?_ (allU_nodup.sublist List.filter_sublist)).mpr fun p => ?_
    · refine List.pairwise_map.mpr (List.Pairwise.imp_of_mem (fun {p q} mp mq n e => n ?_) nd)
      obtain ⟨a, b⟩ := p
      obtain ⟨c, d⟩ := q
      have hab := ne _ mp
      unfold nrm swp at e
      simp only at e hab
      split at e <;> split at e
      · exact e
      · have e1 : a = d := congrArg Prod.fst e
        have e2 : b = c := congrArg Prod.snd e
        subst e1
        subst e2
        exact absurd rfl (ne _ (t _ _ _ mp mq))
      · have e1 : b = c := congrArg Prod.fst e
        have e2 : a = d := congrArg Prod.snd e
        subst e1
        subst e2
        exact absurd rfl (ne _ (t _ _ _ mp mq))
      · have e1 : b = d := congrArg Prod.fst e
        have e2 : a = c := congrArg Prod.snd e
        rw [e1, e2]
    · rw [List.mem_map, List.mem_filter, allU_mem (Nat.le_refl _)]
      have op : opn ps p = false ↔ (p ∈ ps ∨ swp p ∈ ps) := by
        unfold opn
        by_cases h1 : p ∈ ps
        · rw [decide_eq_true h1]
          exact ⟨fun _ => .inl h1, fun _ => rfl⟩
        · rw [decide_eq_false h1]
          by_cases h2 : swp p ∈ ps
          · rw [decide_eq_true h2]
            exact ⟨fun _ => .inr h2, fun _ => rfl⟩
          · rw [decide_eq_false h2]
            exact ⟨fun h => (by cases h), fun h => h.elim (fun h => absurd h h1) (fun h => absurd h h2)⟩
      rw [show ((!opn ps p) = true) ↔ opn ps p = false by cases opn ps p <;> simp, op]
      constructor
      · rintro ⟨q, mq, rfl⟩
        have b := bd _ mq
        have n := ne _ mq
        unfold nrm
        split
        · exact ⟨by omega, .inl mq⟩
        · refine ⟨?_, .inr ?_⟩
          · show 0 ≤ q.2 ∧ q.2 < m ∧ q.2 < q.1 ∧ q.1 < m
            omega
          · exact mq
      · rintro ⟨h, k | k⟩
        · refine ⟨p, k, ?_⟩
          unfold nrm
          rw [if_pos (by omega)]
        · refine ⟨swp p, k, ?_⟩
          unfold nrm
          rw [if_neg (by show ¬ p.2 < p.1; omega)]
          rfl
  have := split (allU m m)
  rw [← pm.length_eq, List.length_map] at this
  exact this
/-- beside each other all of the one are apart from all of the other -/
theorem opn_beside {m1 m2 : Nat} {ps1 ps2 ps : List Pr} (h1 : RowsOk m1 ps1) (h2 : RowsOk m2 ps2) (h : RowsOk (m1 + m2) ps) (B : Beside m1 m2 ps1 ps2 ps) :
    (opnL (m1 + m2) ps).length = (opnL m1 ps1).length + (opnL m2 ps2).length + m1 * m2 := by
  have c1 := opn_count h1.bd (asc_nodup h1.asc) h1.tr h1.ok.ne
  have c2 := opn_count h2.bd (asc_nodup h2.asc) h2.tr h2.ok.ne
  have c := opn_count h.bd (asc_nodup h.asc) h.tr h.ok.ne
  have l : ps.length = ps1.length + ps2.length := by
    have pm : ps.Perm (ps1 ++ ps2.map (shf m1)) := (List.perm_ext_iff_of_nodup (asc_nodup h.asc) (beside_nodup h1.bd h2.bd (asc_nodup h1.asc) (asc_nodup h2.asc))).mpr fun p => (B.mem p).trans List.mem_append.symm
    rw [pm.length_eq, List.length_append, List.length_map]
  have n1 := allU_len m1 m1 (Nat.le_refl _)
  have n2 := allU_len m2 m2 (Nat.le_refl _)
  have n := allU_len (m1 + m2) (m1 + m2) (Nat.le_refl _)
  rw [Nat.mul_add, Nat.mul_one] at n1 n2 n
  rw [Nat.add_mul m1 m2 (m1 + m2), Nat.mul_add m1 m1 m2, Nat.mul_add m2 m1 m2, Nat.mul_comm m2 m1] at n
  omega
end Ev

namespace Ev
open PySem L2
open C8 (pss_cut tCut InsC)
/-! ### a dict from items to their places -/
def dct (k : Nat) (l : List Int) : List (Key × V) := (l.zipIdx k).map fun p => ((.inl p.1 : Key), V.int (p.2 : Nat))
theorem dct_snoc (l : List Int) (a : Int) (k : Nat) : dct k (l ++ [a]) = dct k l ++ [(.inl a, V.int ((k + l.length : Nat) : Int))] := by
  unfold dct
  rw [List.zipIdx_append, List.map_append]
  rfl
theorem dct_length (l : List Int) (k : Nat) : (dct k l).length = l.length := by
  unfold dct
  rw [List.length_map, List.length_zipIdx]
theorem dct_val : ∀ (l : List Int) (k : Nat) (a : Int), valV (dct k l) (.inl a : Key) = if a ∈ l then some (V.int ((k + l.idxOf a : Nat) : Int)) else none
  | [], _, _ => rfl
  | x :: l, k, a => by
    have e : dct k (x :: l) = ((.inl x : Key), V.int (k : Nat)) :: dct (k + 1) l := rfl
    rw [e]
    by_cases h : x = a
    · subst h
      rw [valV_pos rfl, if_pos List.mem_cons_self, List.idxOf_cons_self]
      rfl
    · rw [valV_neg (fun q => h (Sum.inl.inj q)), dct_val l (k + 1) a]
      have h' : (x == a) = false := by simpa using h
      by_cases m : a ∈ l
      · rw [if_pos m, if_pos (List.mem_cons_of_mem _ m), List.idxOf_cons, h']
        show some (V.int ((k + 1 + l.idxOf a : Nat) : Int)) = some (V.int ((k + (l.idxOf a + 1) : Nat) : Int))
        rw [show k + 1 + l.idxOf a = k + (l.idxOf a + 1) by omega]
      · rw [if_neg m, if_neg (fun q => (List.mem_cons.mp q).elim (fun e => h e.symm) m)]
theorem dct_put (l : List Int) (a : Int) (h : a ∉ l) : putK (dct 0 l) (.inl a : Key) (V.int (l.length : Nat)) = dct 0 (l ++ [a]) := by
  unfold putK
  rw [if_neg, dct_snoc, Nat.zero_add]
  intro q
  obtain ⟨p, mp, e⟩ := List.any_eq_true.mp q
  have e := of_decide_eq_true e
  unfold dct at mp
  obtain ⟨⟨b, i⟩, mb, rfl⟩ := List.mem_map.mp mp
  have e : b = a := Sum.inl.inj e
  subst e
  exact h (List.fst_mem_of_mem_zipIdx mb)
/-! ### parts -/
def inn (ls : List Int) (p : Pr) : Bool := decide (p.1 ∈ ls) && decide (p.2 ∈ ls)
def ptv (ls : List Int) (p : Pr) : Pr := ((plc ls p.1 : Int), (plc ls p.2 : Int))
theorem plc_at {ls : List Int} {a : Int} (h : a ∈ ls) : ls[plc ls a]? = some a ∧ plc ls a < ls.length := by
  have lt : ls.idxOf a < ls.length := List.idxOf_lt_length_of_mem h
  exact ⟨by
    unfold plc
    rw [List.getElem?_eq_getElem lt, List.getElem_idxOf], lt⟩
theorem plc_inj {ls : List Int} {a b : Int} (ha : a ∈ ls) (hb : b ∈ ls) (e : plc ls a = plc ls b) : a = b := by
  have h1 := (plc_at ha).1
  rw [e, (plc_at hb).1] at h1
  exact (Option.some.inj h1).symm
theorem pt_mem {ls : List Int} (nd : ls.Nodup) {ps : List Pr} {p : Pr} : p ∈ (ps.filter (inn ls)).map (ptv ls) ↔ ∃ (i j : Nat) (a b : Int), ls[i]? = some a ∧ ls[j]? = some b ∧ (a, b) ∈ ps ∧ p = ((i : Int), (j : Int)) := by
  constructor
  · intro m
    obtain ⟨⟨a, b⟩, mq, rfl⟩ := List.mem_map.mp m
    obtain ⟨mq, k⟩ := List.mem_filter.mp mq
    have k := Bool.and_eq_true_iff.mp k
    exact ⟨_, _, a, b, (plc_at (of_decide_eq_true k.1)).1, (plc_at (of_decide_eq_true k.2)).1, mq, rfl⟩
  · rintro ⟨i, j, a, b, ha, hb, mq, rfl⟩
    refine List.mem_map.mpr ⟨(a, b), List.mem_filter.mpr ⟨mq, ?_⟩, ?_⟩
    · exact Bool.and_eq_true_iff.mpr ⟨decide_eq_true (List.mem_of_getElem? ha), decide_eq_true (List.mem_of_getElem? hb)⟩
    · show ((plc ls a : Int), (plc ls b : Int)) = _
      rw [plc_get nd ha, plc_get nd hb]
theorem pt_in {ls : List Int} {ps : List Pr} : In ls.length ((ps.filter (inn ls)).map (ptv ls)) := fun p mp => by
  obtain ⟨⟨a, b⟩, mq, rfl⟩ := List.mem_map.mp mp
  have k := Bool.and_eq_true_iff.mp (List.mem_filter.mp mq).2
  have h1 := (plc_at (of_decide_eq_true k.1)).2
  have h2 := (plc_at (of_decide_eq_true k.2)).2
  show 0 ≤ (plc ls a : Int) ∧ (plc ls a : Int) < ls.length ∧ 0 ≤ (plc ls b : Int) ∧ (plc ls b : Int) < ls.length
  simp only at h1 h2
  omega
theorem pt_back {ls : List Int} {ps : List Pr} : ∀ p ∈ (ps.filter (inn ls)).map (ptv ls), (ls.getD p.1.toNat 0, ls.getD p.2.toNat 0) ∈ ps := fun p mp => by
  obtain ⟨⟨a, b⟩, mq, rfl⟩ := List.mem_map.mp mp
  obtain ⟨mq, k⟩ := List.mem_filter.mp mq
  have k := Bool.and_eq_true_iff.mp k
  have h1 := (plc_at (of_decide_eq_true k.1)).1
  have h2 := (plc_at (of_decide_eq_true k.2)).1
  show (ls.getD ((plc ls a : Int)).toNat 0, ls.getD ((plc ls b : Int)).toNat 0) ∈ ps
  simp only at h1 h2
  rw [Int.toNat_natCast, Int.toNat_natCast, List.getD_eq_getElem?_getD, List.getD_eq_getElem?_getD, h1, h2]
  exact mq
theorem pt_ok {ls : List Int} {ps : List Pr} (l8 : ls.length ≤ 8) (ok : UpsOk ps) : UpsOk ((ps.filter (inn ls)).map (ptv ls)) := ok.move (fun a => ls.getD a.toNat 0) (pt_in.mono (by omega)) pt_back
theorem pt_nodup {ls : List Int} {ps : List Pr} (nd : ps.Nodup) : ((ps.filter (inn ls)).map (ptv ls)).Nodup :=
  List.pairwise_map.mpr (List.Pairwise.imp_of_mem (fun {p q} mp mq ne e => ne (by
    have k := Bool.and_eq_true_iff.mp (List.mem_filter.mp mp).2
    have l := Bool.and_eq_true_iff.mp (List.mem_filter.mp mq).2
    have e1 : (plc ls p.1 : Int) = plc ls q.1 := congrArg Prod.fst e
    have e2 : (plc ls p.2 : Int) = plc ls q.2 := congrArg Prod.snd e
    exact Prod.ext (plc_inj (of_decide_eq_true k.1) (of_decide_eq_true l.1) (by omega)) (plc_inj (of_decide_eq_true k.2) (of_decide_eq_true l.2) (by omega)))) (List.Pairwise.filter _ nd))
theorem pt_trn {ls : List Int} (nd : ls.Nodup) {ps : List Pr} (t : Trn ps) : Trn ((ps.filter (inn ls)).map (ptv ls)) := fun x y z h1 h2 => by
  obtain ⟨i, j, a, b, ha, hb, m1, e1⟩ := (pt_mem nd).mp h1
  obtain ⟨j', k, b', c, hb', hc, m2, e2⟩ := (pt_mem nd).mp h2
  cases e1
  have ej : (j : Int) = j' := congrArg Prod.fst e2
  have ek : z = k := congrArg Prod.snd e2
  have ej : j = j' := by omega
  subst ej
  rw [hb] at hb'
  cases hb'
  subst ek
  exact (pt_mem nd).mpr ⟨i, k, a, c, ha, hc, t _ _ _ m1 m2, rfl⟩
end Ev

namespace Ev
open PySem L2
/-! ### rows, level by level -/
def ext (m : Nat) (ps : List Pr) (row : List Int) : List (List Int) := (freeI m ps row).map fun a => row ++ [a]
theorem rows_level {m : Nat} {ps : List Pr} : ∀ {t : Nat} {r : List Int}, rowsFrom m ps (t + 1) r = (rowsFrom m ps t r).flatMap (ext m ps)
  | 0, r => by
    show ((freeI m ps r).flatMap fun a => [r ++ [a]]) = [r].flatMap (ext m ps)
    rw [List.flatMap_singleton]
    unfold ext
    induction freeI m ps r with
    | nil => rfl
    | cons x l ih => rw [List.flatMap_cons, ih, List.map_cons]; rfl
  | t + 1, r => by
    show ((freeI m ps r).flatMap fun a => rowsFrom m ps (t + 1) (r ++ [a])) = ((freeI m ps r).flatMap fun a => rowsFrom m ps t (r ++ [a])).flatMap (ext m ps)
    rw [List.flatMap_assoc]
    congr 1
    funext a
    exact rows_level
theorem mem_level {m : Nat} {ps : List Pr} (bd : In m ps) {t : Nat} {row : List Int} (h : row ∈ rowsFrom m ps t []) : row.length = t ∧ row.Nodup ∧ ∀ x ∈ row, 0 ≤ x ∧ x < m := by
  obtain ⟨tl, e, hl, st⟩ := mem_rows.mp h
  have e : row = tl := e
  subst e
  obtain ⟨h1, h2, _⟩ := (steps_iff bd).mp st
  exact ⟨hl, h2, fun x mx => (h1 x mx).1⟩
def fct : Nat → Nat
  | 0 => 1
  | n + 1 => (n + 1) * fct n
theorem fct_pos : ∀ n, 1 ≤ fct n
  | 0 => Nat.le_refl _
  | n + 1 => Nat.le_trans (fct_pos n) (Nat.le_mul_of_pos_left _ (Nat.succ_pos n))
theorem free_le {m : Nat} {ps : List Pr} {r : List Int} : (freeI m ps r).length ≤ lv m r := by
  unfold freeI lv
  have key : ∀ l : List Int, (l.filter (canI ps r)).length ≤ (l.filter fun a => !decide (a ∈ r)).length := by
    intro l
    induction l with
    | nil => exact Nat.le_refl _
    | cons x l ih =>
      cases e : canI ps r x with
      | true =>
        have e2 : (!decide (x ∈ r)) = true := by
          unfold canI at e
          exact (Bool.and_eq_true_iff.mp e).1
        rw [List.filter_cons_of_pos e, List.filter_cons_of_pos (by exact e2), List.length_cons, List.length_cons]
        omega
      | false =>
        rw [List.filter_cons_of_neg (by rw [e]; exact Bool.false_ne_true)]
        refine Nat.le_trans ih ?_
        cases e2 : (!decide (x ∈ r)) with
        | true => rw [List.filter_cons_of_pos (by exact e2), List.length_cons]; omega
        | false => rw [List.filter_cons_of_neg (by rw [e2]; exact Bool.false_ne_true)]; exact Nat.le_refl _
  exact key _
theorem cnt_fct {m : Nat} {ps : List Pr} : ∀ (t : Nat) (r : List Int), cnt m ps t r ≤ fct (lv m r)
  | 0, r => fct_pos _
  | t + 1, r => by
    rw [cnt_succ]
    have key : ∀ l : List Int, (∀ a ∈ l, a ∈ freeI m ps r) → (l.map fun a => cnt m ps t (r ++ [a])).sum ≤ l.length * fct (lv m r - 1) := by
      intro l
      induction l with
      | nil => intro _; exact Nat.zero_le _
      | cons x l ih =>
        intro h
        have ih := ih fun a ma => h a (List.mem_cons_of_mem _ ma)
        have c := mem_freeI.mp (h x List.mem_cons_self)
        have p := lv_put c.1 c.2.1
        have i := cnt_fct (m := m) (ps := ps) t (r ++ [x])
        rw [show lv m (r ++ [x]) = lv m r - 1 by omega] at i
        rw [List.map_cons, List.sum_cons, List.length_cons, Nat.succ_mul]
        omega
    have h1 := key _ fun a ma => ma
    have h2 : (freeI m ps r).length ≤ lv m r := free_le
    cases e : lv m r with
    | zero =>
      rw [free_nil e] at h1
      rw [free_nil e]
      exact Nat.zero_le _
    | succ k =>
      rw [e] at h1 h2
      rw [Nat.add_sub_cancel] at h1
      exact Nat.le_trans h1 (Nat.mul_le_mul_right _ h2)
theorem orders_fct {m : Nat} {ps : List Pr} : (ordersL m ps).length ≤ fct m := by
  have := cnt_fct (m := m) (ps := ps) m []
  rwa [lv_nil] at this
theorem fct_le8 {m : Nat} (h : m ≤ 8) : fct m ≤ 40320 := by
  have : ∀ m ∈ List.range 9, fct m ≤ 40320 := by decide
  exact this m (List.mem_range.mpr (by omega))
theorem level_le {m : Nat} {ps : List Pr} (h : m ≤ 8) (t : Nat) : (rowsFrom m ps t []).length ≤ 40320 := by
  have := cnt_fct (m := m) (ps := ps) t []
  rw [lv_nil] at this
  exact Nat.le_trans this (fct_le8 h)
/-- no befores at all -/
theorem cnt_none {m : Nat} : ∀ (t : Nat) (r : List Int), lv m r = t → cnt m [] t r = fct t
  | 0, r, _ => rfl
  | t + 1, r, h => by
    have e : freeI m [] r = (upto m).filter fun a => !decide (a ∈ r) := by
      unfold freeI
      refine List.filter_congr fun a _ => ?_
      unfold canI
      rw [List.all_nil, Bool.and_true]
    have key : ∀ l : List Int, (∀ a ∈ l, a ∈ freeI m [] r) → (l.map fun a => cnt m [] t (r ++ [a])).sum = l.length * fct t := by
      intro l
      induction l with
      | nil => intro _; exact (Nat.zero_mul _).symm
      | cons x l ih =>
        intro hh
        have ih := ih fun a ma => hh a (List.mem_cons_of_mem _ ma)
        have c := mem_freeI.mp (hh x List.mem_cons_self)
        have p := lv_put c.1 c.2.1
        rw [List.map_cons, List.sum_cons, List.length_cons, Nat.succ_mul, ih, cnt_none t (r ++ [x]) (by omega)]
        omega
    rw [cnt_succ, key _ fun a ma => ma, e]
    show lv m r * fct t = (t + 1) * fct t
    rw [h]
theorem orders_none (m : Nat) : (ordersL m []).length = fct m := cnt_none m [] (lv_nil m)
/-! ### rows read from behind -/
theorem plc_rev {row : List Int} (nd : row.Nodup) {a : Int} (h : a ∈ row) : plc row.reverse a = row.length - 1 - plc row a := by
  have p := plc_at h
  have nd' : row.reverse.Nodup := (List.reverse_perm row).nodup_iff.mpr nd
  refine plc_get nd' ?_
  rw [List.getElem?_reverse (by omega), show row.length - 1 - (row.length - 1 - plc row a) = plc row a by omega]
  exact p.1
theorem RowOk.all {m : Nat} {rs : List Int} (h : RowOk m rs) {x : Int} (h0 : 0 ≤ x) (h1 : x < m) : x ∈ rs := by
  by_cases e : x ∈ rs
  · exact e
  · exfalso
    have l := nat_nodup_len ((x :: rs).map Int.toNat) (List.range m) ?_ ?_
    · rw [List.length_map, List.length_cons, h.len, List.length_range] at l
      omega
    · refine List.pairwise_map.mpr (List.Pairwise.imp_of_mem (fun {a b} ma mb ne q => ne ?_) (List.nodup_cons.mpr ⟨e, h.nd⟩))
      have bd : ∀ y ∈ x :: rs, 0 ≤ y := fun y my => by
        rcases List.mem_cons.mp my with rfl | my
        · exact h0
        · exact (h.bd y my).1
      have ba := bd a ma
      have bb := bd b mb
      omega
    · intro c hc
      obtain ⟨y, my, rfl⟩ := List.mem_map.mp hc
      rw [List.mem_range]
      rcases List.mem_cons.mp my with rfl | my
      · omega
      · have := h.bd y my
        omega
theorem ord_rev {m : Nat} {ps : List Pr} (bd : In m ps) {row : List Int} (h : OrdOk m ps row) : OrdOk m (ps.map swp) row.reverse := by
  refine ⟨⟨by rw [List.length_reverse, h.ro.len], (List.reverse_perm row).nodup_iff.mpr h.ro.nd, fun x mx => h.ro.bd x (List.mem_reverse.mp mx)⟩, fun a b mp => ?_⟩
  have mp' : (b, a) ∈ ps := mem_swap.mp mp
  have q := bd _ mp'
  simp only at q
  have k := h.keep _ _ mp'
  have ha := h.ro.all q.2.2.1 q.2.2.2
  have hb := h.ro.all q.1 q.2.1
  rw [plc_rev h.ro.nd ha, plc_rev h.ro.nd hb]
  have := (plc_at ha).2
  omega
theorem swap_swap (ps : List Pr) : (ps.map swp).map swp = ps := by
  rw [List.map_map]
  have : (swp ∘ swp) = id := rfl
  rw [this, List.map_id]
theorem orders_turn {m : Nat} {ps : List Pr} (bd : In m ps) : (ordersL m (ps.map swp)).length = (ordersL m ps).length := by
  have pm : ((ordersL m ps).map List.reverse).Perm (ordersL m (ps.map swp)) := by
    refine (List.perm_ext_iff_of_nodup (List.pairwise_map.mpr (orders_nodup.imp fun ne e => ne (by have := congrArg List.reverse e; simpa using this))) orders_nodup).mpr fun row => ?_
    rw [List.mem_map, mem_orders bd.swap]
    constructor
    · rintro ⟨r, mr, rfl⟩
      exact ord_rev bd ((mem_orders bd).mp mr)
    · intro h
      refine ⟨row.reverse, (mem_orders bd).mpr ?_, List.reverse_reverse row⟩
      have := ord_rev bd.swap h
      rwa [swap_swap] at this
  rw [← pm.length_eq, List.length_map]
/-- with one before at least half of all rows are none -/
theorem orders_half {m : Nat} {a b : Int} (ab : 0 ≤ a ∧ a < m ∧ 0 ≤ b ∧ b < m) (ne : a ≠ b) : 2 * (ordersL m [(a, b)]).length = fct m := by
  have c1 : Cl ([] ++ [(a, b)]) [(a, b)] := ⟨List.pairwise_singleton _ _, fun x y => ⟨.one, fun t => by
    refine t.ind (R := fun x y => (x, y) ∈ [(a, b)]) (fun _ _ m => m) fun x y z h1 h2 => ?_
    have e1 := List.mem_singleton.mp h1
    have e2 := List.mem_singleton.mp h2
    cases e1
    cases e2
    exact absurd rfl ne⟩⟩
  have c2 : Cl ([] ++ [(b, a)]) [(b, a)] := ⟨List.pairwise_singleton _ _, fun x y => ⟨.one, fun t => by
    refine t.ind (R := fun x y => (x, y) ∈ [(b, a)]) (fun _ _ m => m) fun x y z h1 h2 => ?_
    have e1 := List.mem_singleton.mp h1
    have e2 := List.mem_singleton.mp h2
    cases e1
    cases e2
    exact absurd rfl ne⟩⟩
  have h := orders_both (m := m) (ps := []) (fun p mp => by cases mp) ab ne c1 c2
  have bd : In m [(a, b)] := fun p mp => by
    rw [List.mem_singleton.mp mp]
    exact ab
  have t := orders_turn bd
  have e : [(a, b)].map swp = [(b, a)] := rfl
  rw [e] at t
  rw [orders_none] at h
  omega
theorem orders_sub {m : Nat} {ps qs : List Pr} (b1 : In m ps) (b2 : In m qs) (h : ∀ p ∈ ps, p ∈ qs) : (ordersL m qs).length ≤ (ordersL m ps).length := by
  refine orders_nodup.length_le_of_subset fun row mr => ?_
  have k := (mem_orders b2).mp mr
  exact (mem_orders b1).mpr ⟨k.ro, fun a b mp => k.keep a b (h _ mp)⟩
/-! ### the bits of a row -/
theorem nb_perm {l k : List Int} (h : l.Perm k) : nb l = nb k := by
  unfold nb
  exact (h.map _).sum_nat
theorem nb_row {row : List Int} (nd : row.Nodup) (h0 : ∀ x ∈ row, 0 ≤ x) (a : Int) (ha : 0 ≤ a) : (nb row).testBit a.toNat = true ↔ a ∈ row := by
  have pm := List.mergeSort_perm row (fun x y => decide (x ≤ y))
  have pw : (row.mergeSort fun x y => decide (x ≤ y)).Pairwise (fun x y => x ≤ y) := by
    have := List.pairwise_mergeSort (le := fun x y : Int => decide (x ≤ y)) (fun a b c h1 h2 => by simp at *; omega) (fun a b => by simp; omega) row
    exact this.imp fun h => of_decide_eq_true h
  have nd' := pm.nodup_iff.mpr nd
  have pl : (row.mergeSort fun x y => decide (x ≤ y)).Pairwise (· < ·) := (pw.and nd').imp fun ⟨l, n⟩ => by omega
  rw [← nb_perm pm, nb_bit pl (fun x mx => h0 x (pm.mem_iff.mp mx)), decide_eq_true_eq, show ((a.toNat : Nat) : Int) = a by omega, pm.mem_iff]
/-! ### two neighbours exchanged -/
def ordB (ps : List Pr) (row : List Int) : Bool := ps.all fun p => decide (plc row p.1 < plc row p.2)
theorem ordB_iff {ps : List Pr} {row : List Int} : ordB ps row = true ↔ ∀ a b, (a, b) ∈ ps → plc row a < plc row b := by
  unfold ordB
  rw [List.all_eq_true]
  exact ⟨fun h a b mp => of_decide_eq_true (h _ mp), fun h p mp => decide_eq_true (h p.1 p.2 mp)⟩
def xch (row : List Int) (at_ : Nat) : List Int := row.take at_ ++ [row.getD (at_ + 1) 0, row.getD at_ 0] ++ row.drop (at_ + 2)
theorem row_split {row : List Int} {k : Nat} (h : k + 1 < row.length) : row = row.take k ++ [row.getD k 0, row.getD (k + 1) 0] ++ row.drop (k + 2) := by
  have e1 : row.getD k 0 = row[k] := by
    rw [List.getD_eq_getElem?_getD, List.getElem?_eq_getElem (by omega)]
    rfl
  have e2 : row.getD (k + 1) 0 = row[k + 1] := by
    rw [List.getD_eq_getElem?_getD, List.getElem?_eq_getElem h]
    rfl
  rw [e1, e2, List.append_assoc]
  show row = row.take k ++ (row[k] :: row[k + 1] :: row.drop (k + 2))
  rw [← List.drop_eq_getElem_cons h, ← List.drop_eq_getElem_cons (by omega), List.take_append_drop]
theorem xch_perm {row : List Int} {k : Nat} (h : k + 1 < row.length) : (xch row k).Perm row := by
  have e := row_split h
  unfold xch
  conv => rhs; rw [e]
  exact (List.Perm.append_left _ (List.Perm.swap _ _ _)).append_right _
theorem xch_row {m : Nat} {row : List Int} {k : Nat} (R : RowOk m row) (h : k + 1 < row.length) : RowOk m (xch row k) := by
  have pm := xch_perm h
  exact ⟨by rw [pm.length_eq, R.len], pm.nodup_iff.mpr R.nd, fun x mx => R.bd x (pm.mem_iff.mp mx)⟩
theorem xch_len {row : List Int} {k : Nat} (h : k + 1 < row.length) : (row.take k).length = k := by
  rw [List.length_take]
  omega
theorem xch_at {row : List Int} {k : Nat} (h : k + 1 < row.length) {i : Nat} : (xch row k)[i]? = if i = k then row[k + 1]? else if i = k + 1 then row[k]? else row[i]? := by
  have l := xch_len h
  have e1 : row.getD k 0 = row[k] := by
    rw [List.getD_eq_getElem?_getD, List.getElem?_eq_getElem (by omega)]
    rfl
  have e2 : row.getD (k + 1) 0 = row[k + 1] := by
    rw [List.getD_eq_getElem?_getD, List.getElem?_eq_getElem h]
    rfl
  unfold xch
  rw [e1, e2, List.append_assoc]
  by_cases i1 : i < k
  · rw [List.getElem?_append_left (by omega), List.getElem?_take_of_lt i1, if_neg (by omega), if_neg (by omega)]
  · rw [List.getElem?_append_right (by omega), l]
    by_cases i2 : i = k
    · subst i2
      rw [Nat.sub_self, if_pos rfl, List.getElem?_eq_getElem h]
      rfl
    · rw [if_neg i2]
      by_cases i3 : i = k + 1
      · subst i3
        rw [if_pos rfl, show k + 1 - k = 1 by omega, List.getElem?_eq_getElem (l := row) (i := k) (by omega)]
        rfl
      · rw [if_neg i3, show i - k = (i - k - 2) + 2 by omega]
        show (row.drop (k + 2))[i - k - 2]? = row[i]?
        rw [List.getElem?_drop, show k + 2 + (i - k - 2) = i by omega]
theorem xch_ord {m : Nat} {ps : List Pr} {row : List Int} {k : Nat} (bd : In m ps) (O : OrdOk m ps row) (h : k + 1 < row.length) : ordB ps (xch row k) = !decide ((row.getD k 0, row.getD (k + 1) 0) ∈ ps) := by
  have R := O.ro
  have R' := xch_row R h
  have e1 : row[k]? = some (row.getD k 0) := by
    rw [List.getD_eq_getElem?_getD, List.getElem?_eq_getElem (by omega)]
    rfl
  have e2 : row[k + 1]? = some (row.getD (k + 1) 0) := by
    rw [List.getD_eq_getElem?_getD, List.getElem?_eq_getElem h]
    rfl
  generalize row.getD k 0 = u at *
  generalize row.getD (k + 1) 0 = v at *
  have pu := plc_get R.nd e1
  have pv := plc_get R.nd e2
  have pu' : plc (xch row k) u = k + 1 := plc_get R'.nd (by rw [xch_at h, if_neg (by omega), if_pos rfl]; exact e1)
  have pv' : plc (xch row k) v = k := plc_get R'.nd (by rw [xch_at h, if_pos rfl]; exact e2)
  have po : ∀ x, x ∈ row → x ≠ u → x ≠ v → plc (xch row k) x = plc row x := fun x mx nu nv => by
    have p := plc_at mx
    refine plc_get R'.nd ?_
    have n1 : plc row x ≠ k := fun e => by
      rw [e, e1] at p
      exact nu (Option.some.inj p.1).symm
    have n2 : plc row x ≠ k + 1 := fun e => by
      rw [e, e2] at p
      exact nv (Option.some.inj p.1).symm
    rw [xch_at h, if_neg n1, if_neg n2]
    exact p.1
  by_cases c : (u, v) ∈ ps
  · rw [decide_eq_true c]
    refine Bool.eq_false_iff.mpr fun q => ?_
    have := ordB_iff.mp q u v c
    omega
  · rw [decide_eq_false c]
    refine ordB_iff.mpr fun a b mp => ?_
    have q := bd _ mp
    simp only at q
    have ma := R.all q.1 q.2.1
    have mb := R.all q.2.2.1 q.2.2.2
    have l := O.keep a b mp
    have inj : ∀ x, x ∈ row → plc row x = k → x = u := fun x mx e => by
      have p := (plc_at mx).1
      rw [e, e1] at p
      exact (Option.some.inj p).symm
    have inj2 : ∀ x, x ∈ row → plc row x = k + 1 → x = v := fun x mx e => by
      have p := (plc_at mx).1
      rw [e, e2] at p
      exact (Option.some.inj p).symm
    by_cases au : a = u
    · subst au
      have nb : b ≠ v := fun e => by
        subst e
        exact c mp
      have nb' : b ≠ a := fun e => by
        subst e
        omega
      rw [pu', po b mb nb' nb]
      have : plc row b ≠ k + 1 := fun e => nb (inj2 b mb e)
      omega
    · by_cases av : a = v
      · subst av
        have nb : b ≠ u := fun e => by
          subst e
          omega
        have nb' : b ≠ a := fun e => by
          subst e
          omega
        rw [pv', po b mb nb nb']
        omega
      · rw [po a ma au av]
        by_cases bu : b = u
        · subst bu
          omega
        · by_cases bv : b = v
          · subst bv
            have : plc row a ≠ k := fun e => au (inj a ma e)
            omega
          · rw [po b mb bu bv]
            exact l
theorem nat_le_sum : ∀ {l : List Nat} {n : Nat}, n ∈ l → n ≤ l.sum
  | [], _, h => nomatch h
  | x :: l, n, h => by
    rw [List.sum_cons]
    rcases List.mem_cons.mp h with rfl | h
    · omega
    · have := nat_le_sum h
      omega
theorem orders_posU {m : Nat} {ps : List Pr} (ok : UpsOk ps) (bd : In m ps) : 0 < (ordersL m ps).length := by
  have bdm : ∀ (t : Nat) (r : List Int), lv m r = t → 0 < cnt m ps t r := by
    intro t
    induction t with
    | zero =>
      intro r _
      exact Nat.zero_lt_one
    | succ t ih =>
      intro r hr
      obtain ⟨rk, u⟩ := ok.up
      -- somebody of least rank outside is free
      have ex : ∃ a, a ∈ freeI m ps r := by
        have key : ∀ (d : Nat) (a : Int), rk a = d → 0 ≤ a → a < m → a ∉ r → ∃ b, b ∈ freeI m ps r := by
          intro d
          induction d using Nat.strongRecOn with
          | ind d ihd =>
            intro a ea a0 a1 na
            by_cases f : a ∈ freeI m ps r
            · exact ⟨a, f⟩
            · have : ∃ b, (b, a) ∈ ps ∧ b ∉ r := by
                by_cases q : ∃ b, (b, a) ∈ ps ∧ b ∉ r
                · exact q
                · exact absurd (mem_freeI.mpr ⟨⟨a0, a1⟩, na, fun b mb => by
                    by_cases br : b ∈ r
                    · exact br
                    · exact absurd ⟨b, mb, br⟩ q⟩) f
              obtain ⟨b, mb, nb⟩ := this
              have bb := bd _ mb
              have lt := u.up _ _ mb
              exact ihd (rk b) (by omega) b rfl bb.1 bb.2.1 nb
        obtain ⟨a, ab, na⟩ := lv_pos (m := m) (row := r) (by omega)
        exact key _ a rfl ab.1 ab.2 na
      obtain ⟨a, ma⟩ := ex
      have c := mem_freeI.mp ma
      have l := lv_put c.1 c.2.1
      have := ih (r ++ [a]) (by omega)
      rw [cnt_succ]
      have le := nat_le_sum (List.mem_map_of_mem (f := fun a => cnt m ps t (r ++ [a])) ma)
      exact Nat.lt_of_lt_of_le this le
  exact bdm m [] (lv_nil m)
theorem orders_pos {m : Nat} {ps : List Pr} (h : RowsOk m ps) : 0 < (ordersL m ps).length := orders_posU h.ok h.bd
end Ev

namespace Ev
open PySem L2
/-! ### counts of parts -/
def lsat (ls : List Int) (i : Int) : Int := ls.getD i.toNat 0
structure Sim (m : Nat) (ls r r' : List Int) : Prop where
  i : ∀ i : Nat, i < ls.length → (((i : Int) ∈ r') ↔ ls.getD i 0 ∈ r)
  o : ∀ x : Int, 0 ≤ x → x < m → x ∉ ls → x ∈ r
theorem upto_flt {m : Nat} {ls : List Int} (L : LotOk m ls) : (upto m).filter (fun a => decide (a ∈ ls)) = ls := by
  have p1 : ((upto m).filter (fun a => decide (a ∈ ls))).Pairwise (· < ·) := List.Pairwise.filter _ (upto_asc m)
  have pm : ((upto m).filter (fun a => decide (a ∈ ls))).Perm ls := (List.perm_ext_iff_of_nodup (p1.imp fun l => by omega) L.nd).mpr fun a => by
    rw [List.mem_filter, mem_upto, decide_eq_true_eq]
    exact ⟨fun h => h.2, fun h => ⟨L.bd a h, h⟩⟩
  exact pm.eq_of_pairwise (le := (· < ·)) (fun a b _ _ h1 h2 => by omega) p1 L.up
theorem ls_upto (ls : List Int) : ls = (upto ls.length).map (lsat ls) := by
  refine List.ext_getElem? fun i => ?_
  rw [List.getElem?_map]
  by_cases h : i < ls.length
  · rw [upto_get h, List.getElem?_eq_getElem h]
    show some ls[i] = some (lsat ls (i : Int))
    unfold lsat
    rw [Int.toNat_natCast, List.getD_eq_getElem?_getD, List.getElem?_eq_getElem h]
    rfl
  · rw [List.getElem?_eq_none (by omega), List.getElem?_eq_none (by rw [upto_length]; omega)]
    rfl
theorem sim_free {m : Nat} {ps : List Pr} {ls r r' : List Int} (bd : In m ps) (L : LotOk m ls) (S : Sim m ls r r') : freeI m ps r = (freeI ls.length ((ps.filter (inn ls)).map (ptv ls)) r').map (lsat ls) := by
  have e1 : freeI m ps r = ls.filter (canI ps r) := by
    conv => rhs; rw [← upto_flt L, List.filter_filter]
    unfold freeI
    refine List.filter_congr fun a ma => ?_
    have b := mem_upto.mp ma
    by_cases h : a ∈ ls
    · rw [decide_eq_true h, Bool.and_true]
    · rw [decide_eq_false h, Bool.and_false]
      unfold canI
      rw [decide_eq_true (S.o a b.1 b.2 h)]
      rfl
  rw [e1]
  conv => lhs; rw [ls_upto ls]
  rw [List.filter_map]
  unfold freeI
  congr 1
  refine List.filter_congr fun a ma => ?_
  obtain ⟨i, rfl⟩ := Int.eq_ofNat_of_zero_le (mem_upto.mp ma).1
  have hi : i < ls.length := by
    have := (mem_upto.mp ma).2
    omega
  have gi : ls[i]? = some (ls.getD i 0) := by
    rw [List.getD_eq_getElem?_getD, List.getElem?_eq_getElem hi]
    rfl
  have f1 := mem_freeI (m := m) (ps := ps) (row := r) (a := ls.getD i 0)
  have f2 := mem_freeI (m := ls.length) (ps := (ps.filter (inn ls)).map (ptv ls)) (row := r') (a := (i : Int))
  unfold freeI at f1 f2
  rw [List.mem_filter, mem_upto, and_congr_right_iff] at f1 f2
  have b1 := L.bd _ (List.mem_of_getElem? gi)
  show canI ps r (ls.getD i 0) = canI _ r' (i : Int)
  refine Bool.eq_iff_iff.mpr ((f1 b1).trans (Iff.trans ?_ (f2 (by omega)).symm))
  refine and_congr (not_congr (S.i i hi).symm) ⟨fun k c mc => ?_, fun k c mc => ?_⟩
  · obtain ⟨j, i', a, b, ha, hb, mp, e⟩ := (pt_mem L.nd).mp mc
    have ec : c = (j : Int) := congrArg Prod.fst e
    have ei : (i : Int) = (i' : Int) := congrArg Prod.snd e
    have ei : i = i' := by omega
    subst ec
    subst ei
    rw [gi] at hb
    cases hb
    have lj := (List.getElem?_eq_some_iff.mp ha).1
    refine (S.i j lj).mpr ?_
    rw [List.getD_eq_getElem?_getD, ha]
    exact k a mp
  · by_cases cl : c ∈ ls
    · obtain ⟨j, gj⟩ := List.getElem?_of_mem cl
      have lj := (List.getElem?_eq_some_iff.mp gj).1
      have q := (S.i j lj).mp (k (j : Int) ((pt_mem L.nd).mpr ⟨j, i, c, ls.getD i 0, gj, gi, mc, rfl⟩))
      rwa [List.getD_eq_getElem?_getD, gj] at q
    · have q := bd _ mc
      exact S.o c q.1 q.2.1 cl
theorem sim_put {m : Nat} {ls r r' : List Int} (L : LotOk m ls) (S : Sim m ls r r') {i : Nat} (hi : i < ls.length) : Sim m ls (r ++ [ls.getD i 0]) (r' ++ [(i : Int)]) := by
  have gi : ls[i]? = some (ls.getD i 0) := by
    rw [List.getD_eq_getElem?_getD, List.getElem?_eq_getElem hi]
    rfl
  refine ⟨fun j hj => ?_, fun x h0 h1 n => List.mem_append.mpr (.inl (S.o x h0 h1 n))⟩
  rw [List.mem_append, List.mem_append, S.i j hj, List.mem_singleton, List.mem_singleton]
  refine or_congr Iff.rfl ⟨fun e => ?_, fun e => ?_⟩
  · have : j = i := by omega
    rw [this]
  · have gj : ls[j]? = some (ls.getD j 0) := by
      rw [List.getD_eq_getElem?_getD, List.getElem?_eq_getElem hj]
      rfl
    have p1 := plc_get L.nd gi
    have p2 := plc_get L.nd gj
    rw [e] at p2
    omega
theorem part_cnt {m : Nat} {ps : List Pr} {ls : List Int} (bd : In m ps) (L : LotOk m ls) : ∀ (t : Nat) (r r' : List Int), Sim m ls r r' → cnt m ps t r = cnt ls.length ((ps.filter (inn ls)).map (ptv ls)) t r'
  | 0, _, _, _ => rfl
  | t + 1, r, r', S => by
    rw [cnt_succ, cnt_succ, sim_free bd L S, List.map_map]
    congr 1
    refine List.map_congr_left fun a ma => ?_
    have c := (mem_freeI.mp ma).1
    obtain ⟨i, rfl⟩ := Int.eq_ofNat_of_zero_le c.1
    show cnt m ps t (r ++ [lsat ls (i : Int)]) = _
    unfold lsat
    rw [Int.toNat_natCast]
    exact part_cnt bd L t _ _ (sim_put L S (by omega))
/-- the names but one -/
def butI (m : Nat) (a : Int) : List Int := (upto m).filter fun x => decide (x ≠ a)
theorem mem_butI {m : Nat} {a x : Int} : x ∈ butI m a ↔ (0 ≤ x ∧ x < m) ∧ x ≠ a := by
  unfold butI
  rw [List.mem_filter, mem_upto, decide_eq_true_eq]
theorem butI_lot {m : Nat} {a : Int} : LotOk m (butI m a) := ⟨List.Pairwise.filter _ (upto_asc m), fun x mx => (mem_butI.mp mx).1⟩
theorem butI_len {m : Nat} {a : Int} (h : 0 ≤ a ∧ a < m) : (butI m a).length + 1 = m := by
  have e : (butI m a).length = lv m [a] := by
    unfold butI lv
    congr 1
    refine List.filter_congr fun x _ => ?_
    by_cases q : x = a <;> simp [q]
  have := lv_put (m := m) (row := []) (a := a) h nofun
  rw [List.nil_append, lv_nil] at this
  omega
/-- the count is the sum over those who may come first -/
theorem count_first {m : Nat} {ps : List Pr} (bd : In m ps) (m1 : 1 ≤ m) : (ordersL m ps).length = ((freeI m ps []).map fun a => (ordersL (m - 1) ((ps.filter (inn (butI m a))).map (ptv (butI m a)))).length).sum := by
  have e : (ordersL m ps).length = cnt m ps (m - 1 + 1) [] := by
    show cnt m ps m [] = _
    rw [show m - 1 + 1 = m by omega]
  rw [e, cnt_succ]
  congr 1
  refine List.map_congr_left fun a ma => ?_
  have c := (mem_freeI.mp ma).1
  have l := butI_len c
  have h := part_cnt bd (butI_lot (m := m) (a := a)) (m - 1) ([] ++ [a]) [] ⟨fun i hi => ⟨nofun, fun h => ?_⟩, fun x h0 h1 n => ?_⟩
  · rw [h, show (butI m a).length = m - 1 by omega]
    rfl
  · exfalso
    rw [List.nil_append, List.mem_singleton] at h
    have g : (butI m a)[i]? = some ((butI m a).getD i 0) := by
      rw [List.getD_eq_getElem?_getD, List.getElem?_eq_getElem hi]
      rfl
    exact (mem_butI.mp (List.mem_of_getElem? g)).2 h
  · rw [List.nil_append, List.mem_singleton]
    by_cases q : x = a
    · exact q
    · exact absurd (mem_butI.mpr ⟨⟨h0, h1⟩, q⟩) n
/-! ### hooks of forests -/
def Fo (ps : List Pr) : Prop := ∀ a b v, (a, v) ∈ ps → (b, v) ∈ ps → a = b ∨ (a, b) ∈ ps ∨ (b, a) ∈ ps
def hk (ps : List Pr) (v : Int) : Nat := 1 + (ps.filter fun p => decide (p.1 = v)).length
def outs (m : Nat) (row : List Int) : List Int := (upto m).filter fun a => !decide (a ∈ row)
def prd (l : List Nat) : Nat := l.foldr (· * ·) 1
theorem prd_cons (a : Nat) (l : List Nat) : prd (a :: l) = a * prd l := rfl
theorem prd_append : ∀ a b : List Nat, prd (a ++ b) = prd a * prd b
  | [], b => (Nat.one_mul _).symm
  | x :: a, b => by
    show x * prd (a ++ b) = x * prd a * prd b
    rw [prd_append a b, Nat.mul_assoc]
theorem prd_out {ps : List Pr} {row : List Int} {a : Int} (n : a ∉ row) : ∀ {l : List Int}, l.Nodup → a ∈ l → prd ((l.filter fun x => !decide (x ∈ row)).map (hk ps)) = hk ps a * prd ((l.filter fun x => !decide (x ∈ row ++ [a])).map (hk ps))
  | [], _, h => nomatch h
  | x :: l, nd, h => by
    have nd := List.nodup_cons.mp nd
    by_cases e : x = a
    · subst e
      rw [List.filter_cons_of_pos (by rw [decide_eq_false n]; rfl), List.filter_cons_of_neg (by rw [decide_eq_true (List.mem_append.mpr (.inr List.mem_cons_self))]; decide), List.map_cons, prd_cons]
      congr 2
      refine congrArg _ (List.filter_congr fun y my => ?_)
      have ne : y ≠ x := fun q => nd.1 (q ▸ my)
      have : (y ∈ row ++ [x]) ↔ y ∈ row := by
        rw [List.mem_append, List.mem_singleton]
        exact ⟨fun h => h.elim id (fun q => absurd q ne), .inl⟩
      rw [decide_eq_decide.mpr this]
    · have h := (List.mem_cons.mp h).resolve_left (fun q => e q.symm)
      have ih := prd_out (ps := ps) n nd.2 h
      have e2 : (x ∈ row ++ [a]) ↔ x ∈ row := by
        rw [List.mem_append, List.mem_singleton]
        exact ⟨fun h => h.elim id (fun q => absurd q e), .inl⟩
      by_cases q : x ∈ row
      · rw [List.filter_cons_of_neg (by rw [decide_eq_true q]; decide), List.filter_cons_of_neg (by rw [decide_eq_true (e2.mpr q)]; decide)]
        exact ih
      · rw [List.filter_cons_of_pos (by rw [decide_eq_false q]; rfl), List.filter_cons_of_pos (by rw [decide_eq_false (fun z => q (e2.mp z))]; rfl), List.map_cons, List.map_cons, prd_cons, prd_cons, ih, Nat.mul_left_comm]
theorem sum_hk (ps : List Pr) : ∀ l : List Int, (l.map (hk ps)).sum = (l.flatMap fun a => a :: (ps.filter fun p => decide (p.1 = a)).map (·.2)).length
  | [] => rfl
  | x :: l => by
    rw [List.map_cons, List.sum_cons, List.flatMap_cons, List.length_append, sum_hk ps l, List.length_cons, List.length_map]
    unfold hk
    omega
theorem free_hooks {m : Nat} {ps : List Pr} (h : RowsOk m ps) (fo : Fo ps) {row : List Int} (cl : ∀ a b, (a, b) ∈ ps → b ∈ row → a ∈ row) : ((freeI m ps row).map (hk ps)).sum = lv m row := by
  rw [sum_hk]
  have ir := h.ok.ne
  have pm : ((freeI m ps row).flatMap fun a => a :: (ps.filter fun p => decide (p.1 = a)).map (·.2)).Perm (outs m row) := by
    have mem : ∀ a v : Int, v ∈ (a :: (ps.filter fun p => decide (p.1 = a)).map (·.2)) ↔ v = a ∨ (a, v) ∈ ps := fun a v => by
      rw [List.mem_cons, List.mem_map]
      refine or_congr Iff.rfl ⟨?_, fun mv => ⟨(a, v), List.mem_filter.mpr ⟨mv, decide_eq_true rfl⟩, rfl⟩⟩
      rintro ⟨⟨x, y⟩, mq, rfl⟩
      obtain ⟨m1, m2⟩ := List.mem_filter.mp mq
      have e : x = a := of_decide_eq_true m2
      subst e
      exact m1
    refine (List.perm_ext_iff_of_nodup ?_ ((((upto_asc m).imp fun l => by omega : (upto m).Nodup)).sublist List.filter_sublist)).mpr fun v => ?_
    · rw [List.Nodup, List.pairwise_flatMap]
      refine ⟨fun a _ => List.nodup_cons.mpr ⟨fun q => ?_, ?_⟩, (free_nodup (m := m) (ps := ps) (r := row)).imp_of_mem fun {a b} ma mb ne x mx y my e => ?_⟩
      · obtain ⟨⟨x, y⟩, mq, e⟩ := List.mem_map.mp q
        obtain ⟨m1, m2⟩ := List.mem_filter.mp mq
        exact ir _ m1 ((of_decide_eq_true m2).trans e.symm)
      · refine List.pairwise_map.mpr (((asc_nodup h.asc).sublist List.filter_sublist).imp_of_mem fun {p q} mp mq ne e => ne ?_)
        have e1 := of_decide_eq_true (List.mem_filter.mp mp).2
        have e2 := of_decide_eq_true (List.mem_filter.mp mq).2
        exact Prod.ext (e1.trans e2.symm) e
      · subst e
        have ca := mem_freeI.mp ma
        have cb := mem_freeI.mp mb
        rcases (mem a x).mp mx with h1 | h1 <;> rcases (mem b x).mp my with h2 | h2
        · exact ne (h1.symm.trans h2)
        · rw [h1] at h2
          exact cb.2.1 (ca.2.2 b h2)
        · rw [h2] at h1
          exact ca.2.1 (cb.2.2 a h1)
        · rcases fo a b x h1 h2 with e | e | e
          · exact ne e
          · exact ca.2.1 (cb.2.2 a e)
          · exact cb.2.1 (ca.2.2 b e)
    · rw [List.mem_flatMap, List.mem_filter, mem_upto]
      constructor
      · rintro ⟨a, ma, mv⟩
        have ca := mem_freeI.mp ma
        rcases (mem a v).mp mv with e | e
        · subst e
          exact ⟨ca.1, by rw [decide_eq_false ca.2.1]; rfl⟩
        · have q := h.bd _ e
          refine ⟨⟨q.2.2.1, q.2.2.2⟩, ?_⟩
          rw [decide_eq_false (fun z => ca.2.1 (cl a v e z))]
          rfl
      · rintro ⟨b, nv⟩
        have nv : v ∉ row := fun z => by
          rw [decide_eq_true z] at nv
          cases nv
        obtain ⟨rk, u⟩ := h.ok.up
        have key : ∀ (d : Nat) (v : Int), rk v = d → 0 ≤ v → v < m → v ∉ row → ∃ a, a ∈ freeI m ps row ∧ (v = a ∨ (a, v) ∈ ps) := by
          intro d
          induction d using Nat.strongRecOn with
          | ind d ihd =>
            intro v ev v0 v1 nv
            by_cases f : v ∈ freeI m ps row
            · exact ⟨v, f, .inl rfl⟩
            · have : ∃ b, (b, v) ∈ ps ∧ b ∉ row := by
                by_cases q : ∃ b, (b, v) ∈ ps ∧ b ∉ row
                · exact q
                · exact absurd (mem_freeI.mpr ⟨⟨v0, v1⟩, nv, fun b mb => by
                    by_cases br : b ∈ row
                    · exact br
                    · exact absurd ⟨b, mb, br⟩ q⟩) f
              obtain ⟨b, mb, nb⟩ := this
              have bb := h.bd _ mb
              have lt := u.up _ _ mb
              obtain ⟨a, fa, e⟩ := ihd (rk b) (by omega) b rfl bb.1 bb.2.1 nb
              refine ⟨a, fa, .inr ?_⟩
              rcases e with rfl | e
              · exact mb
              · exact h.tr _ _ _ e mb
        obtain ⟨a, fa, e⟩ := key _ v rfl b.1 b.2 nv
        exact ⟨a, fa, (mem a v).mpr e⟩
  rw [pm.length_eq]
  rfl
theorem hook_cnt {m : Nat} {ps : List Pr} (h : RowsOk m ps) (fo : Fo ps) : ∀ (t : Nat) (row : List Int), lv m row = t → (∀ a b, (a, b) ∈ ps → b ∈ row → a ∈ row) → cnt m ps t row * prd ((outs m row).map (hk ps)) = fct t
  | 0, row, hl, _ => by
    have e : outs m row = [] := List.eq_nil_of_length_eq_zero hl
    rw [e]
    rfl
  | t + 1, row, hl, cl => by
    have fh := free_hooks h fo cl
    rw [hl] at fh
    have key : ∀ l : List Int, (∀ a ∈ l, a ∈ freeI m ps row) → (l.map fun a => cnt m ps t (row ++ [a])).sum * prd ((outs m row).map (hk ps)) = fct t * (l.map (hk ps)).sum := by
      intro l
      induction l with
      | nil => intro _; exact Nat.zero_mul _
      | cons a l ih =>
        intro hh
        have ih := ih fun x mx => hh x (List.mem_cons_of_mem _ mx)
        have c := mem_freeI.mp (hh a List.mem_cons_self)
        have p := lv_put c.1 c.2.1
        have o : prd ((outs m row).map (hk ps)) = hk ps a * prd ((outs m (row ++ [a])).map (hk ps)) := prd_out c.2.1 ((upto_asc m).imp fun l => by omega) (mem_upto.mpr c.1)
        have r := hook_cnt h fo t (row ++ [a]) (by omega) fun x y mp my => by
          rcases List.mem_append.mp my with my | my
          · exact List.mem_append.mpr (.inl (cl x y mp my))
          · rw [List.mem_singleton.mp my] at mp
            exact List.mem_append.mpr (.inl (c.2.2 x mp))
        rw [List.map_cons, List.sum_cons, Nat.add_mul, ih, List.map_cons, List.sum_cons, Nat.mul_add]
        congr 1
        rw [o, Nat.mul_left_comm, r, Nat.mul_comm]
    rw [cnt_succ, key _ fun a ma => ma, fh]
    show fct t * (t + 1) = (t + 1) * fct t
    rw [Nat.mul_comm]
theorem hooks_all {m : Nat} {ps : List Pr} (h : RowsOk m ps) (fo : Fo ps) : (ordersL m ps).length * prd ((upto m).map (hk ps)) = fct m := by
  have := hook_cnt h fo m [] (lv_nil m) fun _ _ _ h => nomatch h
  have e : outs m [] = upto m := List.filter_eq_self.mpr fun a _ => by
    rw [decide_eq_false (fun h => nomatch h)]
    rfl
  rwa [e] at this
/-- trees: each name has at most one ahead of it that is told -/
theorem Pn_last {ps : List Pr} : ∀ {n : Nat} {a c : Int}, Pn ps (n + 1) a c → ∃ b, Pn ps n a b ∧ (b, c) ∈ ps := fun {n a c} h => by
  obtain ⟨b, h1, h2⟩ := Pn_split (n := n) (m := 1) h
  obtain ⟨d, hd, e⟩ := h2
  exact ⟨b, h1, by rw [← show d = c from e]; exact hd⟩
theorem fo_tree {ps qs : List Pr} (one : ∀ a b v, (a, v) ∈ ps → (b, v) ∈ ps → a = b) (cl : Cl ps qs) : Fo qs := by
  have key : ∀ (n k : Nat) (a b v : Int), Pn ps (n + 1) a v → Pn ps (k + 1) b v → a = b ∨ Tc ps a b ∨ Tc ps b a := by
    intro n
    induction n with
    | zero =>
      intro k a b v h1 h2
      obtain ⟨a', ha, m1⟩ := Pn_last h1
      obtain ⟨b', hb, m2⟩ := Pn_last h2
      have e := one _ _ _ m1 m2
      subst e
      have ea : a = a' := ha
      subst ea
      cases k with
      | zero => exact .inl (show b = a from hb).symm
      | succ k => exact .inr (.inr ⟨k + 1, by omega, hb⟩)
    | succ n ih =>
      intro k a b v h1 h2
      obtain ⟨a', ha, m1⟩ := Pn_last h1
      obtain ⟨b', hb, m2⟩ := Pn_last h2
      have e := one _ _ _ m1 m2
      subst e
      cases k with
      | zero =>
        have eb : b = a' := hb
        subst eb
        exact .inr (.inl ⟨n + 1, by omega, ha⟩)
      | succ k => exact ih k a b a' ha hb
  intro a b v ma mb
  obtain ⟨n, n1, pn⟩ := (cl.mem a v).mp ma
  obtain ⟨k, k1, pk⟩ := (cl.mem b v).mp mb
  obtain ⟨n, rfl⟩ : ∃ n', n = n' + 1 := ⟨n - 1, by omega⟩
  obtain ⟨k, rfl⟩ : ∃ k', k = k' + 1 := ⟨k - 1, by omega⟩
  rcases key n k a b v pn pk with e | e | e
  · exact .inl e
  · exact .inr (.inl ((cl.mem a b).mpr e))
  · exact .inr (.inr ((cl.mem b a).mpr e))
/-! ### names in one row -/
def chn (m : Nat) : List Pr := (List.range (m - 1)).map fun k : Nat => ((k : Int), (k : Int) + 1)
theorem mem_chn {m : Nat} {p : Pr} : p ∈ chn m ↔ 0 ≤ p.1 ∧ p.1 + 1 < m ∧ p.2 = p.1 + 1 := by
  unfold chn
  rw [List.mem_map]
  constructor
  · rintro ⟨k, mk, rfl⟩
    have := List.mem_range.mp mk
    show 0 ≤ (k : Int) ∧ (k : Int) + 1 < m ∧ (k : Int) + 1 = (k : Int) + 1
    exact ⟨by omega, by omega, rfl⟩
  · intro h
    obtain ⟨a, b⟩ := p
    simp only at h
    refine ⟨a.toNat, List.mem_range.mpr (by omega), ?_⟩
    refine Prod.ext ?_ ?_
    · show ((a.toNat : Nat) : Int) = a
      omega
    · show ((a.toNat : Nat) : Int) + 1 = b
      omega
theorem chn_in {m : Nat} : In m (chn m) := fun p mp => by
  have := mem_chn.mp mp
  omega
theorem chn_ok {m : Nat} (m8 : m ≤ 8) : UpsOk (chn m) := by
  refine ⟨chn_in.mono (by omega), fun a => a.toNat, fun a b mp => ?_, fun a b mp => ?_⟩
  · have := mem_chn.mp mp
    simp only at this
    omega
  · have := mem_chn.mp mp
    simp only at this
    omega
theorem chn_asc {m : Nat} : asc (chn m) := by
  unfold chn asc
  rw [List.pairwise_map]
  refine List.pairwise_lt_range.imp fun {a b} l => ?_
  show (a : Int) * 64 + ((a : Int) + 1) < (b : Int) * 64 + ((b : Int) + 1)
  omega
theorem chn_cl {m : Nat} {qs : List Pr} (cl : Cl (chn m) qs) (a b : Int) (h0 : 0 ≤ a) (h1 : a < b) (h2 : b < m) : (a, b) ∈ qs := by
  have key : ∀ d : Nat, a + d + 1 < m → (a, a + d + 1) ∈ qs := by
    intro d
    induction d with
    | zero =>
      intro h
      refine cl.sub _ (mem_chn.mpr ?_)
      simp only
      omega
    | succ d ih =>
      intro h
      refine cl.trans (ih (by omega)) (cl.sub _ (mem_chn.mpr ?_))
      simp only
      omega
  have := key (b - a - 1).toNat (by omega)
  rwa [show a + ((b - a - 1).toNat : Nat) + 1 = b by omega] at this
theorem chn_count {m : Nat} {qs : List Pr} (m8 : m ≤ 8) (cl : Cl (chn m) qs) : (ordersL m qs).length = 1 := by
  have ro : RowsOk m qs := .of_cl (chn_ok m8) chn_in cl
  have pos := orders_pos ro
  have all : ∀ row ∈ ordersL m qs, row = upto m := fun row mr => by
    have O := (mem_orders ro.bd).mp mr
    refine upto_eq (List.pairwise_iff_getElem.mpr fun i j hi hj lt => ?_) O.ro.bd O.ro.len
    have gi : row[i]? = some row[i] := List.getElem?_eq_getElem hi
    have gj : row[j]? = some row[j] := List.getElem?_eq_getElem hj
    have pi := plc_get O.ro.nd gi
    have pj := plc_get O.ro.nd gj
    have bi := O.ro.bd _ (List.mem_of_getElem? gi)
    have bj := O.ro.bd _ (List.mem_of_getElem? gj)
    rcases Int.lt_trichotomy row[i] row[j] with h | h | h
    · exact h
    · rw [h] at pi
      omega
    · have := O.keep _ _ (chn_cl cl _ _ bj.1 h bi.2)
      omega
  have nd := orders_nodup (m := m) (ps := qs)
  generalize ordersL m qs = l at all nd pos ⊢
  cases l with
  | nil => exact absurd pos (Nat.lt_irrefl 0)
  | cons a r =>
    cases r with
    | nil => rfl
    | cons b r =>
      exfalso
      have e1 := all a List.mem_cons_self
      have e2 := all b (List.mem_cons_of_mem _ List.mem_cons_self)
      exact (List.nodup_cons.mp nd).1 (by rw [e1, ← e2]; exact List.mem_cons_self)
end Ev

namespace Ev
open PySem L2
/-! ### lots, and the rows that come to them -/
theorem rows_split {m : Nat} {ps : List Pr} (t : Nat) : ∀ (s : Nat) (r : List Int), rowsFrom m ps (s + t) r = (rowsFrom m ps s r).flatMap (rowsFrom m ps t)
  | 0, r => by
    rw [Nat.zero_add]
    show _ = [r].flatMap _
    rw [List.flatMap_cons, List.flatMap_nil, List.append_nil]
  | s + 1, r => by
    rw [show s + 1 + t = (s + t) + 1 by omega]
    show ((freeI m ps r).flatMap fun a => rowsFrom m ps (s + t) (r ++ [a])) = ((freeI m ps r).flatMap fun a => rowsFrom m ps s (r ++ [a])).flatMap _
    rw [List.flatMap_assoc]
    congr 1
    funext a
    exact rows_split t s _
theorem cnt_split {m : Nat} {ps : List Pr} {s : Nat} (h : s ≤ m) : (ordersL m ps).length = ((rowsFrom m ps s []).map fun r => cnt m ps (m - s) r).sum := by
  have := rows_split (m := m) (ps := ps) (m - s) s []
  rw [show s + (m - s) = m by omega] at this
  unfold ordersL
  rw [this, List.length_flatMap]
  rfl
theorem freeI_mem {m : Nat} {ps : List Pr} {r q : List Int} (h : ∀ x, x ∈ r ↔ x ∈ q) : freeI m ps r = freeI m ps q := by
  unfold freeI
  refine List.filter_congr fun a _ => ?_
  unfold canI
  rw [decide_eq_decide.mpr (h a)]
  congr 1
  refine List.all_congr rfl fun p => ?_
  rw [decide_eq_decide.mpr (h p.1)]
theorem cnt_mem {m : Nat} {ps : List Pr} : ∀ (t : Nat) {r q : List Int}, (∀ x, x ∈ r ↔ x ∈ q) → cnt m ps t r = cnt m ps t q
  | 0, _, _, _ => rfl
  | t + 1, r, q, h => by
    rw [cnt_succ, cnt_succ, freeI_mem h]
    congr 1
    refine List.map_congr_left fun a _ => cnt_mem t fun x => ?_
    rw [List.mem_append, List.mem_append, h x]
/-- rows that stay within a closed lot, as those of its part -/
structure SimC (ls r r' : List Int) : Prop where
  i : ∀ i : Nat, i < ls.length → (((i : Int) ∈ r') ↔ ls.getD i 0 ∈ r)
theorem simC_free {m : Nat} {ps : List Pr} {ls r r' : List Int} (L : LotOk m ls) (cl : ClosedI ps ls) (S : SimC ls r r') : (freeI m ps r).filter (fun a => decide (a ∈ ls)) = (freeI ls.length ((ps.filter (inn ls)).map (ptv ls)) r').map (lsat ls) := by
  have e1 : (freeI m ps r).filter (fun a => decide (a ∈ ls)) = ls.filter (canI ps r) := by
    conv => rhs; rw [← upto_flt L, List.filter_filter]
    unfold freeI
    rw [List.filter_filter]
    refine List.filter_congr fun a _ => ?_
    rw [Bool.and_comm]
  rw [e1]
  conv => lhs; rw [ls_upto ls]
  rw [List.filter_map]
  unfold freeI
  congr 1
  refine List.filter_congr fun a ma => ?_
  obtain ⟨i, rfl⟩ := Int.eq_ofNat_of_zero_le (mem_upto.mp ma).1
  have hi : i < ls.length := by
    have := (mem_upto.mp ma).2
    omega
  have gi : ls[i]? = some (ls.getD i 0) := by
    rw [List.getD_eq_getElem?_getD, List.getElem?_eq_getElem hi]
    rfl
  have f1 := mem_freeI (m := m) (ps := ps) (row := r) (a := ls.getD i 0)
  have f2 := mem_freeI (m := ls.length) (ps := (ps.filter (inn ls)).map (ptv ls)) (row := r') (a := (i : Int))
  unfold freeI at f1 f2
  rw [List.mem_filter, mem_upto, and_congr_right_iff] at f1 f2
  have b1 := L.bd _ (List.mem_of_getElem? gi)
  show canI ps r (ls.getD i 0) = canI _ r' (i : Int)
  refine Bool.eq_iff_iff.mpr ((f1 b1).trans (Iff.trans ?_ (f2 (by omega)).symm))
  refine and_congr (not_congr (S.i i hi).symm) ⟨fun k c mc => ?_, fun k c mc => ?_⟩
  · obtain ⟨j, i', a, b, ha, hb, mp, e⟩ := (pt_mem L.nd).mp mc
    have ec : c = (j : Int) := congrArg Prod.fst e
    have ei : (i : Int) = (i' : Int) := congrArg Prod.snd e
    have ei : i = i' := by omega
    subst ec
    subst ei
    rw [gi] at hb
    cases hb
    have lj := (List.getElem?_eq_some_iff.mp ha).1
    refine (S.i j lj).mpr ?_
    rw [List.getD_eq_getElem?_getD, ha]
    exact k a mp
  · have cl' : c ∈ ls := cl _ _ mc (List.mem_of_getElem? gi)
    obtain ⟨j, gj⟩ := List.getElem?_of_mem cl'
    have lj := (List.getElem?_eq_some_iff.mp gj).1
    have q := (S.i j lj).mp (k (j : Int) ((pt_mem L.nd).mpr ⟨j, i, c, ls.getD i 0, gj, gi, mc, rfl⟩))
    rwa [List.getD_eq_getElem?_getD, gj] at q
theorem simC_put {m : Nat} {ls r r' : List Int} (L : LotOk m ls) (S : SimC ls r r') {i : Nat} (hi : i < ls.length) : SimC ls (r ++ [ls.getD i 0]) (r' ++ [(i : Int)]) := by
  have gi : ls[i]? = some (ls.getD i 0) := by
    rw [List.getD_eq_getElem?_getD, List.getElem?_eq_getElem hi]
    rfl
  refine ⟨fun j hj => ?_⟩
  rw [List.mem_append, List.mem_append, S.i j hj, List.mem_singleton, List.mem_singleton]
  refine or_congr Iff.rfl ⟨fun e => ?_, fun e => ?_⟩
  · have : j = i := by omega
    rw [this]
  · have gj : ls[j]? = some (ls.getD j 0) := by
      rw [List.getD_eq_getElem?_getD, List.getElem?_eq_getElem hj]
      rfl
    have p1 := plc_get L.nd gi
    have p2 := plc_get L.nd gj
    rw [e] at p2
    omega
def within (ls : List Int) (row : List Int) : Bool := row.all fun a => decide (a ∈ ls)
theorem rows_pre {m : Nat} {ps : List Pr} {t : Nat} {r row : List Int} (h : row ∈ rowsFrom m ps t r) : ∀ a ∈ r, a ∈ row := by
  obtain ⟨tl, rfl, _⟩ := mem_rows.mp h
  exact fun a ma => List.mem_append.mpr (.inl ma)
theorem sum_flt {α : Type} (p : α → Bool) (f : α → Nat) : ∀ l : List α, (∀ a ∈ l, p a = false → f a = 0) → (l.map f).sum = ((l.filter p).map f).sum
  | [], _ => rfl
  | a :: l, h => by
    have ih := sum_flt p f l fun x mx => h x (List.mem_cons_of_mem _ mx)
    cases hp : p a with
    | true => rw [List.filter_cons_of_pos hp, List.map_cons, List.map_cons, List.sum_cons, List.sum_cons, ih]
    | false => rw [List.filter_cons_of_neg (by rw [hp]; decide), List.map_cons, List.sum_cons, h a List.mem_cons_self hp, Nat.zero_add, ih]
theorem own_cnt {m : Nat} {ps : List Pr} {ls : List Int} (L : LotOk m ls) (cl : ClosedI ps ls) : ∀ (t : Nat) (r r' : List Int), SimC ls r r' → (∀ a ∈ r, a ∈ ls) → ((rowsFrom m ps t r).filter (within ls)).length = cnt ls.length ((ps.filter (inn ls)).map (ptv ls)) t r'
  | 0, r, r', S, sub => by
    show ([r].filter (within ls)).length = 1
    rw [List.filter_cons_of_pos (by
      unfold within
      rw [List.all_eq_true]
      exact fun a ma => decide_eq_true (sub a ma))]
    rfl
  | t + 1, r, r', S, sub => by
    rw [cnt_succ]
    show (((freeI m ps r).flatMap fun a => rowsFrom m ps t (r ++ [a])).filter (within ls)).length = _
    rw [List.filter_flatMap, List.length_flatMap, sum_flt (fun a => decide (a ∈ ls)) _ _ fun a _ na => ?_, simC_free L cl S, List.map_map]
    · congr 1
      refine List.map_congr_left fun a ma => ?_
      have c := (mem_freeI.mp ma).1
      obtain ⟨i, rfl⟩ := Int.eq_ofNat_of_zero_le c.1
      have hi : i < ls.length := by omega
      have gi : ls[i]? = some (ls.getD i 0) := by
        rw [List.getD_eq_getElem?_getD, List.getElem?_eq_getElem hi]
        rfl
      show ((rowsFrom m ps t (r ++ [lsat ls (i : Int)])).filter (within ls)).length = _
      unfold lsat
      rw [Int.toNat_natCast]
      refine own_cnt L cl t _ _ (simC_put L S hi) fun a ma => ?_
      rcases List.mem_append.mp ma with ma | ma
      · exact sub a ma
      · rw [List.mem_singleton.mp ma]
        exact List.mem_of_getElem? gi
    · have na := of_decide_eq_false na
      have e : (rowsFrom m ps t (r ++ [a])).filter (within ls) = [] := List.filter_eq_nil_iff.mpr fun row mr h => by
        unfold within at h
        rw [List.all_eq_true] at h
        exact na (of_decide_eq_true (h a (rows_pre mr a (List.mem_append.mpr (.inr List.mem_cons_self)))))
      rw [e]
      rfl
def ownN (ps : List Pr) (ls : List Int) : Nat := (ordersL ls.length ((ps.filter (inn ls)).map (ptv ls))).length
theorem own_rows {m : Nat} {ps : List Pr} {ls : List Int} (L : LotOk m ls) (cl : ClosedI ps ls) : ((rowsFrom m ps ls.length []).filter (within ls)).length = ownN ps ls :=
  own_cnt L cl ls.length [] [] ⟨fun _ _ => ⟨nofun, nofun⟩⟩ nofun
/-- who stands in a row, ascending -/
def setI (m : Nat) (r : List Int) : List Int := (upto m).filter fun a => decide (a ∈ r)
theorem setI_lot (m : Nat) (r : List Int) : LotOk m (setI m r) := ⟨List.Pairwise.filter _ (upto_asc m), fun x mx => mem_upto.mp (List.mem_filter.mp mx).1⟩
theorem mem_setI {m : Nat} {r : List Int} (bd : ∀ x ∈ r, 0 ≤ x ∧ x < m) {a : Int} : a ∈ setI m r ↔ a ∈ r := by
  unfold setI
  rw [List.mem_filter, mem_upto, decide_eq_true_eq]
  exact ⟨fun h => h.2, fun h => ⟨bd a h, h⟩⟩
theorem steps_closed {m : Nat} {ps : List Pr} : ∀ {tl r : List Int}, Steps m ps r tl → (∀ a c, (a, c) ∈ ps → c ∈ r → a ∈ r) → ∀ a c, (a, c) ∈ ps → c ∈ r ++ tl → a ∈ r ++ tl
  | [], r, _, h, a, c, mp, mc => by
    rw [List.append_nil] at mc ⊢
    exact h a c mp mc
  | x :: tl, r, st, h, a, c, mp, mc => by
    have e : r ++ x :: tl = (r ++ [x]) ++ tl := by rw [List.append_assoc]; rfl
    rw [e] at mc ⊢
    refine steps_closed st.2 (fun a c mp mc => ?_) a c mp mc
    rcases List.mem_append.mp mc with mc | mc
    · exact List.mem_append.mpr (.inl (h a c mp mc))
    · rw [List.mem_singleton.mp mc] at mp
      exact List.mem_append.mpr (.inl ((mem_freeI.mp st.1).2.2 a mp))
theorem row_closed {m : Nat} {ps : List Pr} {t : Nat} {r : List Int} (h : r ∈ rowsFrom m ps t []) : ∀ a c, (a, c) ∈ ps → c ∈ r → a ∈ r := by
  obtain ⟨tl, rfl, _, st⟩ := mem_rows.mp h
  exact steps_closed st fun _ _ _ mc => nomatch mc
theorem lot_eq {m : Nat} {l k : List Int} (L : LotOk m l) (M : LotOk m k) (h : ∀ x, x ∈ l ↔ x ∈ k) : l = k := by
  have pm : l.Perm k := (List.perm_ext_iff_of_nodup L.nd M.nd).mpr h
  exact pm.eq_of_pairwise (le := (· < ·)) (fun a b _ _ h1 h2 => by omega) L.up M.up
theorem sub_len {l : List Int} : ∀ {r : List Int}, r.Nodup → l.Nodup → (∀ x ∈ r, x ∈ l) → l.length ≤ r.length → ∀ x ∈ l, x ∈ r := by
  intro r nr nl sub len x mx
  by_cases h : x ∈ r
  · exact h
  · exfalso
    have key : ∀ {r l : List Int}, r.Nodup → l.Nodup → (∀ x ∈ r, x ∈ l) → r.length ≤ l.length := by
      intro r
      induction r with
      | nil => intro l _ _ _; exact Nat.zero_le _
      | cons a r ih =>
        intro l nr nl sub
        have na := List.nodup_cons.mp nr
        have ma := sub a List.mem_cons_self
        have ll := List.length_erase_of_mem ma
        have lp := List.length_pos_of_mem ma
        have := ih (l := l.erase a) na.2 (nl.erase a) fun x mx => by
          rw [nl.mem_erase_iff]
          exact ⟨fun e => na.1 (e ▸ mx), sub x (List.mem_cons_of_mem _ mx)⟩
        rw [List.length_cons]
        omega
    have := key (r := x :: r) (l := l) (List.nodup_cons.mpr ⟨h, nr⟩) nl fun y my => by
      rcases List.mem_cons.mp my with rfl | my
      · exact mx
      · exact sub y my
    rw [List.length_cons] at this
    omega
theorem sum_swap {α β : Type} (f : α → β → Nat) (k : List β) : ∀ l : List α, (l.map fun a => (k.map fun b => f a b).sum).sum = (k.map fun b => (l.map fun a => f a b).sum).sum
  | [] => by
    induction k with
    | nil => rfl
    | cons b k ih =>
      rw [List.map_cons, List.sum_cons, ← ih]
      rfl
  | a :: l => by
    rw [List.map_cons, List.sum_cons, sum_swap f k l]
    induction k with
    | nil => rfl
    | cons b k ih =>
      rw [List.map_cons, List.map_cons, List.map_cons, List.sum_cons, List.sum_cons, List.sum_cons, List.map_cons, List.sum_cons, ← ih]
      omega
theorem sum_one {α : Type} (p : α → Bool) (g : α → Nat) (b : α) : ∀ {l : List α}, l.Nodup → b ∈ l → (∀ a ∈ l, p a = true ↔ a = b) → (l.map fun a => if p a = true then g a else 0).sum = g b
  | [], _, h, _ => nomatch h
  | a :: l, nd, mb, h => by
    have nd := List.nodup_cons.mp nd
    have zero : ∀ l : List α, (∀ x ∈ l, p x = false) → (l.map fun a => if p a = true then g a else 0).sum = 0 := by
      intro l
      induction l with
      | nil => intro _; rfl
      | cons x l ih =>
        intro hz
        rw [List.map_cons, List.sum_cons, ih fun y my => hz y (List.mem_cons_of_mem _ my), hz x List.mem_cons_self]
        rfl
    rw [List.map_cons, List.sum_cons]
    by_cases e : a = b
    · subst e
      rw [if_pos ((h a List.mem_cons_self).mpr rfl), zero l fun x mx => ?_, Nat.add_zero]
      cases hp : p x with
      | false => rfl
      | true =>
        exact absurd ((h x (List.mem_cons_of_mem _ mx)).mp hp ▸ mx) nd.1
    · rw [if_neg fun hp => e ((h a List.mem_cons_self).mp hp), Nat.zero_add]
      exact sum_one p g b nd.2 ((List.mem_cons.mp mb).resolve_left fun q => e q.symm) fun x mx => h x (List.mem_cons_of_mem _ mx)
theorem sum_if {α : Type} (p : α → Bool) (c : Nat) : ∀ l : List α, (l.map fun a => if p a = true then c else 0).sum = (l.filter p).length * c
  | [] => (Nat.zero_mul _).symm
  | a :: l => by
    rw [List.map_cons, List.sum_cons, sum_if p c l]
    cases h : p a with
    | true => rw [List.filter_cons_of_pos h, if_pos rfl, List.length_cons, Nat.succ_mul, Nat.add_comm]
    | false => rw [List.filter_cons_of_neg (by rw [h]; decide), if_neg Bool.false_ne_true, Nat.zero_add]
def sizeB (s : Nat) (l : List Int) : Bool := decide (l.length = s)
/-- the closed lots of one size, and the orders -/
theorem lots_sum {m : Nat} {ps : List Pr} (bd : In m ps) {LL : List (List Int)} (h : LotsOk m ps LL) {s : Nat} (sm : s ≤ m) : ((LL.filter (sizeB s)).map fun l => ownN ps l * cnt m ps (m - s) l).sum = (ordersL m ps).length := by
  have lots : ∀ l ∈ LL.filter (sizeB s), LotOk m l ∧ ClosedI ps l ∧ l.length = s := fun l ml => by
    obtain ⟨a, b⟩ := List.mem_filter.mp ml
    exact ⟨((h.mem l).mp a).1, ((h.mem l).mp a).2, of_decide_eq_true b⟩
  rw [cnt_split sm]
  have e1 : ((rowsFrom m ps s []).map fun r => cnt m ps (m - s) r) = (rowsFrom m ps s []).map fun r => ((LL.filter (sizeB s)).map fun l => if within l r = true then cnt m ps (m - s) l else 0).sum := by
    refine List.map_congr_left fun r mr => ?_
    obtain ⟨rl, rnd, rbd⟩ := mem_level bd mr
    have rc := row_closed mr
    have ms : ∀ x, x ∈ setI m r ↔ x ∈ r := fun x => mem_setI rbd
    have sl : (setI m r).length = s := by
      have pm : (setI m r).Perm r := (List.perm_ext_iff_of_nodup (setI_lot m r).nd rnd).mpr ms
      rw [pm.length_eq, rl]
    have mL : setI m r ∈ LL.filter (sizeB s) := List.mem_filter.mpr ⟨(h.mem _).mpr ⟨setI_lot m r, fun a c mp mc => (ms a).mpr (rc a c mp ((ms c).mp mc))⟩, decide_eq_true sl⟩
    rw [sum_one (fun l => within l r) (fun l => cnt m ps (m - s) l) (setI m r) (h.nd.sublist List.filter_sublist) mL fun l ml => ?_]
    · exact cnt_mem _ fun x => (ms x).symm
    · obtain ⟨L, _, ll⟩ := lots l ml
      unfold within
      rw [List.all_eq_true]
      constructor
      · intro w
        have sub : ∀ x ∈ r, x ∈ l := fun x mx => of_decide_eq_true (w x mx)
        have back := sub_len rnd L.nd sub (by omega)
        exact lot_eq L (setI_lot m r) fun x => ⟨fun mx => (ms x).mpr (back x mx), fun mx => sub x ((ms x).mp mx)⟩
      · rintro rfl x mx
        exact decide_eq_true ((ms x).mpr mx)
  rw [e1, sum_swap]
  congr 1
  refine List.map_congr_left fun l ml => ?_
  obtain ⟨L, cl, ll⟩ := lots l ml
  rw [sum_if, ← ll, own_rows L cl]
end Ev

namespace Ev
open PySem L2
open C8 (pss_cut tCut InsC)
section
variable {P : Program} {w : World} {K : PySem.W.Frag} {mg : Str → Option Value} {base : Heap}
theorem small300 {n : Nat} (h : n ≤ 300) : n < sizeLine := Nat.lt_of_le_of_lt h (by decide)
theorem sum_nat : ∀ l : List Nat, ((l.map fun n : Nat => (n : Int)).sum) = ((l.sum : Nat) : Int)
  | [] => rfl
  | n :: l => by
    rw [List.map_cons, List.sum_cons, List.sum_cons, sum_nat l]
    omega
/-! ### ahead_bits -/
def sp_aheadB (K : PySem.W.Frag) (C : Addr) : Sp := fun vs H Q _ => ∃ (x : Addr) (m : Nat) (js : Kp), vs = [.ref x] ∧ WebAt K C H x m js ∧ m ≤ 8 ∧ In m (kp js) ∧
  ∀ H' d bs, Same H H' → H d = none → H' d = some (.lst (nv bs)) → Needs m (kp js) bs → Q (.ref d) H'
abbrev s_aheadB : Stmt := topS 7 -- @ahead_bits
abbrev n_aheadB : List Str := ["web", "needs", "one", "other"]
theorem sc_aheadB : FnScope n_aheadB ["web"] (defScope s_aheadB) := ⟨rfl, rfl, rfl, by decide +kernel, rfl, by decide +kernel, by decide +kernel⟩
theorem ok_aheadB {f C fI fE : Addr} {fd : FuncData} (F : Fun K "ahead_bits" "ahead_bits" s_aheadB f fd) (W : WebC K mg C fI fE) (B : Bl mg) : FnOk P w K mg base CX0 1 f fd ["web"] (sp_aheadB K C) := by
  refine F.ok sc_aheadB (fun vs H Q E h => ?_) (fun cdv A outer s H vs Q E hr h => ?_)
  · obtain ⟨x, m, js, rfl, _⟩ := h
    rfl
  · obtain ⟨x, m, js, rfl, wa, m8, bd, q⟩ := h
    refine ⟨_, pss_cons (ps_set (i := 1) sc_aheadB.nd rfl (Or.inl rfl) (pe_op op_rep (pe_lst (pa_cons (pe_int) pa_nil)) (pe_fld (pv 0) rfl)))
      (pss_cut (ps_for PassesOwn.never rfl (pi_tup (pe_fld (pv 0) rfl)) (pg_tup (by rfl) (pgs_cons (pg_name (i := 2) sc_aheadB.nd rfl (Or.inl rfl)) (pgs_cons (pg_name (i := 3) sc_aheadB.nd rfl (Or.inl rfl)) pgs_nil)))
        (pss_one (ps_augS (pv 1) (pv 3) pget_list (pe_op op_oneShl pe_int (pv 2)) iop_or set_list)))
      (pss_one (ps_ret (pv 1)))), ?_⟩
    obtain ⟨dx, z, hx, hz⟩ := wa.ob
    refine ⟨(by show 1 ≤ sizeLine; decide), fun p0 np0 => ?_⟩
    have s0 := same_new (o := .lst [.int 0]) np0
    refine ⟨_, rfl, x, C, dx, _, _, rfl, s0 _ _ hx, W.ins.cl, W.nM, webF_many _ _, p0, m, _, rfl, rfl, upd_same, by omega, by omega, ?_, fun bh nbh => ?_⟩
    · show 1 * (m : Int).toNat ≤ sizeLine
      rw [Int.toNat_natCast]
      exact Nat.le_of_lt (small64 (by omega))
    have e0 : (List.replicate (m : Int).toNat [V.int 0]).flatten = nv (List.replicate m 0) := nv_rep m
    rw [e0]
    have nbh0 : H bh = none := none_of s0 nbh
    have sm0 : Same H (upd (upd H p0 (.lst [.int 0])) bh (.lst (nv (List.replicate m 0)))) := same_upd s0 nbh0
    refine ⟨fun σ' H' => ∃ (bs : List Nat) (v3 v4 : Option V), σ' = [some (.ref x), some (.ref bh), v3, v4] ∧ Same H H' ∧ H' bh = some (.lst (nv bs)) ∧ bs.length = m ∧ ∀ c a, Mx bs c a ↔ (a, c) ∈ kp js, ?_, ?_⟩
    · refine ⟨_, rfl, x, C, dx, _, _, rfl, sm0 _ _ hx, W.ins.cl, W.nB, webF_bef _ _, z, rfl, ⟨_, sqT_same hz sm0⟩, for_tup (K := K) (a := z) (xs := kv js) (fun i σ' H' => ∃ (bs : List Nat) (v3 v4 : Option V), σ' = [some (.ref x), some (.ref bh), v3, v4] ∧ Same H H' ∧ H' bh = some (.lst (nv bs)) ∧ bs.length = m ∧ ∀ c a, Mx bs c a ↔ (a, c) ∈ (kp js).take i) ?_ ?_ ?_ ?_⟩
      · refine ⟨List.replicate m 0, none, none, rfl, sm0, upd_same, List.length_replicate, fun a c => ⟨fun h => (Mx_zero m a c h).elim, fun h => by cases h⟩⟩
      · rintro i σ' H1 _ ⟨bs, v3, v4, rfl, sm, _⟩
        exact sqT_same hz sm
      · rintro i y σ' H1 hi ⟨bs, v3, v4, rfl, sm, hb, lb, mx⟩
        obtain ⟨⟨pa, x1, x2⟩, gk, rfl⟩ := get_kv hi
        obtain ⟨a0, a1, c0, c1⟩ := bd _ (List.mem_of_getElem? (kp_get gk))
        simp only at a0 a1 c0 c1
        obtain ⟨n1, rfl⟩ := Int.eq_ofNat_of_zero_le a0
        obtain ⟨n2, rfl⟩ := Int.eq_ofNat_of_zero_le c0
        have l1 : n2 < bs.length := by omega
        refine ⟨pa, _, rfl, (wa.at_.same sm) _ (List.mem_of_getElem? gk), rfl, _, _, rfl, _, _, rfl, rfl, ?_⟩
        refine ⟨_, rfl, _, rfl, bh, _, n2, _, rfl, rfl, SqL.of hb, nv_get (getD_get l1), _, rfl, n1, rfl, rfl, by omega, _, _, rfl, rfl, bh, _, n2, n2, rfl, rfl, hb, by rw [nv_length]; exact ixN_nat l1, ?_⟩
        refine ⟨bs.set n2 (bs.getD n2 0 ||| 2 ^ n1), _, _, rfl, same_upd sm nbh0, ?_, by rw [List.length_set]; exact lb, fun c a => ?_⟩
        · dsimp only
          rw [or_pow, nv_set]
          exact upd_same
        · rw [Mx_put l1, mx, take_snoc (kp_get gk), List.mem_append, List.mem_singleton, Prod.mk.injEq, and_comm (a := c = _)]
      · rintro σ' H1 ⟨bs, v3, v4, rfl, sm, hb, lb, mx⟩
        have et : (kp js).take (kv js).length = kp js := List.take_of_length_le (by rw [kp_length, kv_length]; exact Nat.le_refl _)
        rw [et] at mx
        exact ⟨bs, v3, v4, rfl, sm, hb, lb, mx⟩
    rintro σ' H1 ⟨bs, v3, v4, rfl, sm, hb, lb, mx⟩
    exact ⟨_, rfl, q H1 bh bs sm nbh0 hb ⟨lb, mx⟩⟩
end
end Ev

namespace Ev
open PySem L2
open C8 (pss_cut tCut InsC)
theorem nv_inv {l : List Nat} {i : Nat} {x : V} (h : (nv l)[i]? = some x) : ∃ k, l[i]? = some k ∧ x = V.int (k : Int) := by
  unfold nv at h
  rw [List.getElem?_map] at h
  obtain ⟨k, g, e⟩ := Option.map_eq_some_iff.mp h
  exact ⟨k, g, e.symm⟩
theorem lotI_nv (m n : Nat) : nv (bitsOf m n) = (lotI m n).map V.int := by
  unfold nv lotI
  rw [List.map_map]
  rfl
theorem sqL_same {K : PySem.W.Frag} {H H' : Hp} {a : Addr} {xs : List V} (h : SqL K H a xs) (k : Same H H') : SqL K H' a xs := by
  rcases h with (h | ⟨o, h⟩) | h
  · exact .inl (.inl (k _ _ h))
  · exact .inl (.inr ⟨o, k _ _ h⟩)
  · exact .inr h
section
variable {P : Program} {w : World} {K : PySem.W.Frag} {mg : Str → Option Value} {base : Heap}
/-! ### is_closed -/
def sp_isClosed (K : PySem.W.Frag) : Sp := fun vs H Q _ => ∃ (d : Addr) (n : Nat) (bs : List Nat), vs = [.ref d, .int n] ∧ SqL K H d (nv bs) ∧ bs.length ≤ 8 ∧ ∀ H', Same H H' → Q (.bl (closedB bs n)) H'
abbrev s_isClosed : Stmt := topS 9 -- @is_closed
abbrev n_isClosed : List Str := ["needs", "bits", "needed", "name", "need"]
theorem sc_isClosed : FnScope n_isClosed ["needs", "bits"] (defScope s_isClosed) := ⟨rfl, rfl, rfl, by decide +kernel, rfl, by decide +kernel, by decide +kernel⟩
theorem ok_isClosed {f f1 : Addr} {fd fd1 : FuncData} (F : Fun K "is_closed" "is_closed" s_isClosed f fd) (D1 : Df K mg "lot_of" s_lotOf ["many", "bits"] f1 fd1) (B : Bl mg) : FnOk P w K mg base CX0 2 f fd ["needs", "bits"] (sp_isClosed K) := by
  have G1 : FnOk P w K mg base CX0 1 f1 fd1 ["many", "bits"] (sp_lotOf K) := ok_lotOf D1.F B
  refine F.ok sc_isClosed (fun vs H Q E h => ?_) (fun cdv A outer s H vs Q E hr h => ?_)
  · obtain ⟨d, n, bs, rfl, _⟩ := h
    rfl
  · obtain ⟨d, n, bs, rfl, hd, l8, q⟩ := h
    refine ⟨_, pss_cons (ps_setLc (i := 2) (own := [("name", 3)]) (g := (gName 3)) (tt := tYes) (te := (tOp (rIxL K) (tVar 0) (tVar 3))) (by rfl) sc_isClosed.nd rfl rfl (sw_true rfl rfl rfl (by decide +kernel)) (pi_tup (pe_call G1 hr rfl D1.g D1.F.kp D1.b .nil pass0 (pa_cons (pe_callB call_len_seq (by rfl) B.len (by decide +kernel) (pa_cons (pv 0) pa_nil)) (pa_cons (pv 1) pa_nil)))) (blkOk_by (N := n_isClosed) (sc := defScope s_isClosed) (by decide +kernel)) (fun _ _ _ _ _ => by exact pg_name (i := 3) sc_isClosed.nd rfl (Or.inl rfl)) (fun _ _ _ _ _ => by exact pts_nil) (fun _ _ _ _ _ => by exact pe_ix ix_list (pv 0) (pv 3) (fun _ _ => rfl)))
      (pss_one (ps_ret (pe_callB (cr_all rfl) (by rfl) B.all (by decide +kernel) (pa_cons (pe_lc (own := [("need", 4)]) (g := (gName 4)) (tt := tYes) (te := (tOp rEq (tOp rAndN (tVar 4) (tVar 1)) (tVar 4))) (by rfl) sc_isClosed.nd (pi_list (pv 2)) (blkOk_by (N := n_isClosed) (sc := defScope s_isClosed) (by decide +kernel)) (fun _ _ _ _ _ => by exact pg_name (i := 4) sc_isClosed.nd rfl (Or.inl rfl)) (fun _ _ _ _ _ => by exact pts_nil) (fun _ _ _ _ _ => by exact pe_cmpR op_eq (pe_op op_andNN (pv 4) (pv 1)) (pv 4) (nomark _))) pa_nil)))), ?_⟩
    refine ⟨_, rfl, d, _, rfl, .inl hd, _, rfl, (nv bs).length, n, rfl, by rw [nv_length]; exact l8, fun H1 z sm1 nz hz => ?_⟩
    rw [nv_length] at hz
    have hd1 := sqL_same hd sm1
    have lb := bitsOf_length bs.length n
    refine ⟨z, rfl, ⟨_, sqT_of hz⟩, fun D nD => ?_⟩
    refine lc_tup (K := K) (a := z) (xs := nv (bitsOf bs.length n)) (fun i H' => Same H1 H' ∧ H' D = some (.lst (nv (((bitsOf bs.length n).take i).map fun k => bs.getD k 0)))) ?_ ?_ ?_ ?_
    · exact ⟨same_new nD, upd_same⟩
    · rintro i H2 _ ⟨sm, _⟩
      exact sqT_of (sm _ _ hz)
    · rintro i y H2 hi ⟨sm, hD⟩
      obtain ⟨k, gk, rfl⟩ := nv_inv hi
      have lk := (mem_bitsOf.mp (List.mem_of_getElem? gk)).1
      refine ⟨rfl, _, rfl, _, rfl, _, _, _, _, rfl, rfl, sqL_same hd1 sm, atI_nat (nv_get (getD_get lk)), _, hD, ?_, same_upd sm nD, ?_⟩
      · rw [nv_length, List.length_map, List.length_take]
        exact small64 (by omega)
      · rw [upd_same, take_snoc gk, List.map_append, nv_append]
        rfl
    rintro H2 ⟨sm2, hD2⟩
    rw [nv_length, List.take_length] at hD2
    generalize hns : (bitsOf bs.length n).map (fun k => bs.getD k 0) = nsd at hD2
    have lns : nsd.length ≤ 8 := by
      rw [← hns, List.length_map]
      omega
    refine ⟨_, rfl, D, rfl, ⟨_, SqL.of hD2⟩, fun E2 nE => ?_⟩
    have nED : D ≠ E2 := ne_of_none hD2 nE
    refine lc_list (K := K) (a := D) (xs := nv nsd) (fun i H' => Same H2 H' ∧ H' E2 = some (.lst (((nsd.take i).map fun x => decide (x &&& n = x)).map V.bl))) ?_ ?_ ?_ ?_
    · exact ⟨same_new nE, upd_same⟩
    · rintro i H3 _ ⟨sm, _⟩
      exact SqL.of (sm _ _ hD2)
    · rintro i y H3 hi ⟨sm, hE⟩
      obtain ⟨x, gx, rfl⟩ := nv_inv hi
      have lt : i < nsd.length := (List.getElem?_eq_some_iff.mp gx).1
      refine ⟨rfl, _, rfl, _, rfl, x, n, rfl, rfl, _, rfl, rfl, _, hE, ?_, same_upd sm nE, ?_⟩
      · rw [List.length_map, List.length_map, List.length_take]
        exact small64 (by omega)
      · have e : decide (V.int ((x &&& n : Nat) : Int) = V.int (x : Int)) = decide (x &&& n = x) := decide_eq_decide.mpr ⟨fun h => by have := V.int.inj h; omega, fun h => by rw [h]⟩
        rw [upd_same, take_snoc gx, List.map_append, List.map_append, e]
        rfl
    rintro H3 ⟨sm3, hE⟩
    rw [nv_length, List.take_length] at hE
    refine ⟨E2, _, rfl, SqL.of hE, ?_⟩
    have e : (nsd.map fun x => decide (x &&& n = x)).all id = closedB bs n := by
      rw [← hns, List.map_map, List.all_map]
      rfl
    rw [e]
    exact q _ (sm1.trans (sm2.trans sm3))
/-! ### closed_bits -/
def sp_closedB (K : PySem.W.Frag) : Sp := fun vs H Q _ => ∃ (d : Addr) (bs : List Nat), vs = [.ref d] ∧ SqL K H d (nv bs) ∧ bs.length ≤ 8 ∧ ∀ H' e, Same H H' → H e = none → H' e = some (.lst (nv (closedL bs))) → Q (.ref e) H'
abbrev s_closedB : Stmt := topS 11 -- @closed_bits
abbrev n_closedB : List Str := ["needs", "bits"]
theorem sc_closedB : FnScope n_closedB ["needs"] (defScope s_closedB) := ⟨rfl, rfl, rfl, by decide +kernel, rfl, by decide +kernel, by decide +kernel⟩
theorem flt_range_yes {p : Nat → Bool} {i : Nat} (h : p i = true) : (List.range (i + 1)).filter p = (List.range i).filter p ++ [i] := by
  rw [List.range_succ, List.filter_append, List.filter_cons_of_pos h]
  rfl
theorem flt_range_no {p : Nat → Bool} {i : Nat} (h : p i = false) : (List.range (i + 1)).filter p = (List.range i).filter p := by
  rw [List.range_succ, List.filter_append, List.filter_cons_of_neg (by rw [h]; exact Bool.false_ne_true)]
  simp
theorem ok_closedB {f f1 : Addr} {fd fd1 : FuncData} (F : Fun K "closed_bits" "closed_bits" s_closedB f fd) (D1 : Df K mg "is_closed" s_isClosed ["needs", "bits"] f1 fd1)
    (G1 : FnOk P w K mg base CX0 2 f1 fd1 ["needs", "bits"] (sp_isClosed K)) (B : Bl mg) : FnOk P w K mg base CX0 3 f fd ["needs"] (sp_closedB K) := by
  refine F.ok sc_closedB (fun vs H Q E h => ?_) (fun cdv A outer s H vs Q E hr h => ?_)
  · obtain ⟨d, bs, rfl, _⟩ := h
    rfl
  · obtain ⟨d, bs, rfl, hd, l8, q⟩ := h
    refine ⟨_, pss_one (ps_ret (pe_lc (own := [("bits", 1)]) (g := (gName 1)) (tt := (tB (tCall (sp_isClosed K) [] E0 (tCons (tVar 0) (tCons (tVar 1) tNil))))) (te := (tVar 1)) (by rfl) sc_closedB.nd (pi_range1 (by rfl) B.range (pa_cons (pe_op op_oneShl (pe_int) (pe_callB call_len_seq (by rfl) B.len (by decide +kernel) (pa_cons (pv 0) pa_nil))) pa_nil)) (blkOk_by (N := n_closedB) (sc := defScope s_closedB) (by decide +kernel)) (fun _ _ _ _ _ => by exact pg_name (i := 1) sc_closedB.nd rfl (Or.inl rfl)) (fun _ _ _ _ _ => by exact pts_one (pt_val (pe_call G1 hr rfl D1.g D1.F.kp D1.b .nil pass0 (pa_cons (pv 0) (pa_cons (pv 1) pa_nil))))) (fun _ _ _ _ _ => by exact pv 1))), ?_⟩
    have e2 : ((2 : Int) ^ bs.length) = ((2 ^ bs.length : Nat) : Int) := by
      push_cast
      rfl
    have p256 : 2 ^ bs.length ≤ 256 := Nat.pow_le_pow_right (by decide) l8 (n := 2)
    refine ⟨_, rfl, d, _, rfl, .inl hd, bs.length, rfl, by rw [nv_length], by omega, _, rfl, (by rw [e2]; generalize 2 ^ bs.length = N at p256 ⊢; omega), (by rw [e2]; generalize 2 ^ bs.length = N at p256 ⊢; omega), fun D nD => ?_⟩
    have et : ((2 : Int) ^ bs.length).toNat = 2 ^ bs.length := by
      rw [e2, Int.toNat_natCast]
    refine lc_range (lo := 0) (n := ((2 : Int) ^ bs.length).toNat) (fun i H' => Same H H' ∧ H' D = some (.lst (nv ((List.range i).filter (closedB bs))))) ?_ ?_ ?_
    · exact ⟨same_new nD, upd_same⟩
    · rintro i H1 hi ⟨sm, hD⟩
      rw [et] at hi
      refine ⟨rfl, _, rfl, _, rfl, d, i, bs, by rw [Int.zero_add]; rfl, sqL_same hd sm, l8, fun H2 sm2 => ⟨_, rfl, ?_⟩⟩
      have hD2 := sm2 _ _ hD
      cases e : closedB bs i with
      | false => exact iteF ⟨sm.trans sm2, by rw [flt_range_no e]; exact hD2⟩
      | true =>
        refine iteT ⟨_, rfl, _, hD2, ?_, same_upd (sm.trans sm2) nD, ?_⟩
        · rw [nv_length]
          have := flt_range_len (p := closedB bs) (i := i)
          exact small300 (by omega)
        · rw [upd_same, flt_range_yes e, nv_append, Int.zero_add]
          rfl
    rintro H1 ⟨sm, hD⟩
    rw [et] at hD
    exact q H1 D sm nD hD
/-! ### comers -/
def sp_comers (K : PySem.W.Frag) : Sp := fun vs H Q _ => ∃ (d : Addr) (n : Nat) (bs : List Nat), vs = [.ref d, .int n] ∧ SqL K H d (nv bs) ∧ bs.length ≤ 8 ∧ ∀ H' e, Same H H' → H e = none → H' e = some (.lst (nv (comersL bs n))) → Q (.ref e) H'
abbrev s_comers : Stmt := topS 10 -- @comers
abbrev n_comers : List Str := ["needs", "gone", "names", "name"]
theorem sc_comers : FnScope n_comers ["needs", "gone"] (defScope s_comers) := ⟨rfl, rfl, rfl, by decide +kernel, rfl, by decide +kernel, by decide +kernel⟩
theorem ok_comers {f : Addr} {fd : FuncData} (F : Fun K "comers" "comers" s_comers f fd) (B : Bl mg) : FnOk P w K mg base CX0 1 f fd ["needs", "gone"] (sp_comers K) := by
  refine F.ok sc_comers (fun vs H Q E h => ?_) (fun cdv A outer s H vs Q E hr h => ?_)
  · obtain ⟨d, n, bs, rfl, _⟩ := h
    rfl
  · obtain ⟨d, n, bs, rfl, hd, l8, q⟩ := h
    refine ⟨_, pss_cons (ps_set (i := 2) sc_comers.nd rfl (Or.inl rfl) (pe_callTy cr_range1 (by rfl) B.range (by decide +kernel) (pa_cons (pe_callB call_len_seq (by rfl) B.len (by decide +kernel) (pa_cons (pv 0) pa_nil)) pa_nil)))
      (pss_one (ps_ret (pe_lc (own := [("name", 3)]) (g := (gName 3)) (tt := (tAnd (tNot (tTru K (tOp rOdd (tOp rShr (tVar 1) (tVar 3)) (tC (.int 1))))) (tTest (tOp rEq (tOp rAndN (tOp (rIxL K) (tVar 0) (tVar 3)) (tVar 1)) (tOp (rIxL K) (tVar 0) (tVar 3)))))) (te := (tVar 3)) (by rfl) sc_comers.nd (pi_rngV (pv 2)) (blkOk_by (N := n_comers) (sc := defScope s_comers) (by decide +kernel)) (fun _ _ _ _ _ => by exact pg_name (i := 3) sc_comers.nd rfl (Or.inl rfl)) (fun _ _ _ _ _ => by exact pts_one (PW.pt (pw_and (pt_not (pt_tru (pe_op op_oddN (pe_op op_shrNN (pv 1) (pv 3)) (pe_int)))) (pw_and1 (pt_cmpR op_eq (pe_op op_andNN (pe_ix ix_list (pv 0) (pv 3) (fun _ _ => rfl)) (pv 1)) (pe_ix ix_list (pv 0) (pv 3) (fun _ _ => rfl)) (nomark _)))))) (fun _ _ _ _ _ => by exact pv 3)))), ?_⟩
    refine ⟨_, rfl, d, _, rfl, .inl hd, _, rfl, fun g ng => ?_⟩
    rw [nv_length]
    have sg := same_new (o := .rng 0 (bs.length : Int)) ng
    have hg : (upd H g (.rng 0 (bs.length : Int))) g = some (.rng 0 (bs.length : Int)) := upd_same
    generalize upd H g (.rng 0 (bs.length : Int)) = H1 at sg hg
    refine ⟨_, rfl, g, 0, bs.length, rfl, hg, by omega, fun D nD => ?_⟩
    have em : ((bs.length : Int) - 0).toNat = bs.length := by omega
    refine lc_range (lo := 0) (n := ((bs.length : Int) - 0).toNat) (fun i H' => Same H1 H' ∧ H' D = some (.lst (nv ((List.range i).filter (freeB bs n))))) ?_ ?_ ?_
    · exact ⟨same_new nD, upd_same⟩
    · rintro i H2 hi ⟨sm, hD⟩
      rw [em] at hi
      have hd2 := sqL_same hd (sg.trans sm)
      have len := flt_range_len (p := freeB bs n) (i := i)
      have a1 : atI (nv bs) ((0 : Int) + (i : Nat)) = some (V.int ((bs.getD i 0 : Nat) : Int)) := by
        rw [Int.zero_add]
        exact atI_nat (nv_get (getD_get hi))
      refine ⟨rfl, _, rfl, _, rfl, n, i, rfl, by rw [Int.zero_add], n / 2 ^ i, rfl, rfl, _, rfl, ?_⟩
      rw [bit_val]
      cases e : n.testBit i with
      | true => exact iteF ⟨sm, by rw [flt_range_no (by unfold freeB; rw [e]; rfl)]; exact hD⟩
      | false =>
        refine iteT ⟨_, rfl, _, rfl, _, _, _, _, rfl, rfl, hd2, a1, _, rfl, bs.getD i 0, n, rfl, rfl, _, rfl, _, rfl, _, _, _, _, rfl, rfl, hd2, a1, rfl, _, rfl, ?_⟩
        have e2 : decide (V.int ((bs.getD i 0 &&& n : Nat) : Int) = V.int ((bs.getD i 0 : Nat) : Int)) = hasB bs n i := decide_eq_decide.mpr ⟨fun h => by have := V.int.inj h; omega, fun h => by rw [h]⟩
        rw [e2]
        cases e3 : hasB bs n i with
        | false => exact iteF ⟨sm, by rw [flt_range_no (by unfold freeB; rw [e, e3]; rfl)]; exact hD⟩
        | true =>
          refine iteT ⟨_, rfl, _, hD, ?_, same_upd sm nD, ?_⟩
          · rw [nv_length]
            exact small64 (by omega)
          · rw [upd_same, flt_range_yes (by unfold freeB; rw [e, e3]; rfl), nv_append, Int.zero_add]
            rfl
    rintro H2 ⟨sm, hD⟩
    rw [em] at hD
    exact q H2 D (sg.trans sm) (none_of sg nD) hD
end
end Ev

namespace Ev
open PySem PySem.Spec L2 PyProof.Rows
/-- sorted(d, reverse=True), of a dict whose keys are ints -/
def rSortDR : List V → List V → Hp → VK → Prop := fun vs zs H Q => ∃ (a : Addr) (kvs : List (Key × V)) (ks : List Int), vs = [.ref a] ∧ zs = [.bl true] ∧ Rd H a (.dK kvs) ∧ kvs.map (·.1) = ks.map Sum.inl ∧ ks.length ≤ 1000 ∧
  ∀ (ys : List Int) (p : Addr), ys.Perm ks → ys.Pairwise (· ≥ ·) → H p = none → Q (.ref p) (upd H p (.lst (ys.map V.int)))
theorem cr_sortDR {X : Cx} (calm : X.calm = true) : CallRK X (.builtin "sorted") [Str.ofString "reverse"] rSortDR := by
  intro pins s σ H vs zs us ws Q I r rz given
  obtain ⟨a, kvs, ks, rfl, rfl, hd, keys, few, q⟩ := given
  obtain rfl := Vals.ref1 r
  obtain ⟨w1, rfl, is1⟩ := vals1 rz
  obtain rfl : w1 = Value.bool true := is1
  obtain ⟨_, lo, dv, rel, dd⟩ := dk_rd I.hok hd
  obtain ⟨ep, hat⟩ := dd.dictAt
  have dkeys : dv.map (·.1) = ks.map Sum.inl := rel.keys.symm.trans keys
  have dlen : dv.length = ks.length := by
    simpa using congrArg List.length dkeys
  have room : (1000 : Nat) ≤ sizeLine := by decide
  have dz : dv.length ≤ sizeLine := by omega
  refine call_function_entry_kw kind_sorted plain_sorted entry_sorted
    (args_sorted_rev _ _) ?_
  unfold Builtin.«sorted»
  refine wpAny_bind (m := checkCount "sorted" 1 1 _) <| wpAny_pure ?_
  have src := PySem.W.kdl_dict (knd := mixKind X.prog X.w) (kvs := dv) (ep := ep) lo
  refine wpAny_bind <| PySem.W.kdu_collect (A := X.A.in1) src
    (I.ok.hd calm) hat dz fun h2 tk acc kept got => ?_
  have alen : acc.toList.length = ks.length := (Array.length_toList).trans (got.1.trans dlen)
  have nsI : IntsAre acc.toList ks := by
    refine ints_each alen fun j v gv => ?_
    rw [Array.getElem?_toList] at gv
    obtain ⟨k, x, g1, g2⟩ := got.2 j v gv
    have g3 : (ks.map Sum.inl : List Key)[j]? = some k := by
      rw [← dkeys, List.getElem?_map, g1]
      rfl
    rw [List.getElem?_map] at g3
    obtain ⟨y, gy, rfl⟩ := Option.map_eq_some_iff.mp g3
    rcases keyIs_shape (show keyIs (Sum.inl y) v = true from g2) with ⟨i, t, ek, ev⟩ | ⟨z, t, ek, ev⟩
    · cases ek
      exact ⟨y, t, gy, ev⟩
    · cases ek
  have I2 : Inv X pins σ H { s with heap := h2, toks := tk } := I.kept kept
  refine wpAny_bind <| wpAny_newList ?_ (by omega)
  have at2 : (h2.push (seqObj "list" acc.toList.toArray 0)).get? h2.objs.size = some (seqObj "list" acc.toList.toArray 0) :=
    Heap.get?_push_size _ rfl
  show wpAny _ _ _ _ _ { s with toks := tk, heap := h2.push (seqObj "list" acc.toList.toArray 0) }
  refine wpAny_bind <| wpAny_holding <| wpAny_call_entry_kw slot_list_sort
    ⟨_, at2, rfl⟩ entry_list_sort ?_ (args_list_sort_rev _ _)
  refine SrtR.list_sort_ordR (b := true) SrtO.swo_int at2 (by omega)
    (fun two => SrtO.ints_sortable nsI two) fun out o1 o2 => ⟨_, rfl, ?_⟩
  obtain ⟨ys, k1, k2, k3⟩ := SrtR.ints_outR nsI o1 o2
  obtain ⟨e2, he2⟩ := sortedHeap_at (vs := acc.toList)
    (out := if true = true then out.toArray.reverse else out.toArray) at2
  have ylen : (ys.map V.int).length ≤ sizeLine := by
    rw [List.length_map, k2.length_eq]
    omega
  have arr : ((if true = true then out.toArray.reverse else out.toArray).toList).toArray = (if true = true then out.toArray.reverse else out.toArray) :=
    Array.toArray_toList
  refine wpAny_pure ⟨_, rfl, .ref h2.objs.size, upd H h2.objs.size (.lst (ys.map V.int)), ?_, rfl,
    q ys _ k2 k3 (I2.hok.fresh (Nat.le_refl _))⟩
  refine I2.laid (t' := tk) (fun b u gb => ?_) (Nat.le_refl _) ⟨ylen, _, e2, vals_of_ints k1, by rw [arr]; exact he2⟩
  have lb : b < h2.objs.size := Heap.lt_size gb
  rw [sortedHeap_old (Nat.ne_of_lt lb)
    (by rw [size_push']; exact Nat.lt_succ_of_lt lb)]
  exact Heap.get?_push_of_some _ gb
end Ev

namespace Ev
open PySem PySem.Spec PyProof.Rows L2
section
variable {X : Cx}
/-- name = {..} on one line, the name a local -/
theorem ps_setDc {i : Nat} {y : Str} {py : Pos} {kx vx tg iter : Expr} {ifs : List Expr} {scope : Scope} {own : List (Str × Nat)} {pos spos : Pos} {wi : TI} {g : TG} {tt : TT} {tk tv : TE} (hc : X.calm = true) (hN : X.N.Nodup) (hy : X.N[i]? = some y) (hyl : X.env.scope.names.lookup y = some .local)
    (hsw : swapsWith (.DictComp kx vx [⟨tg, iter, ifs, 0⟩] scope pos) (some (.Name y py)) spos.line X.env = pure true) (hi : PI X tg iter wi) (ok : BlkOk X.N X.env.scope scope own)
    (hg : ∀ (s : Shared) (H : Hp) (C : Addr) (cl : List (Str × Addr)) (fp : List Addr), PG (X.blk s H scope (compEnvC scope cl C X.env) fp) tg g) (ht : ∀ (s : Shared) (H : Hp) (C : Addr) (cl : List (Str × Addr)) (fp : List Addr), PTs (X.blk s H scope (compEnvC scope cl C X.env) fp) ifs tt)
    (hk : ∀ (s : Shared) (H : Hp) (C : Addr) (cl : List (Str × Addr)) (fp : List Addr), PE (X.blk s H scope (compEnvC scope cl C X.env) fp) kx tk)
    (he : ∀ (s : Shared) (H : Hp) (C : Addr) (cl : List (Str × Addr)) (fp : List Addr), PE (X.blk s H scope (compEnvC scope cl C X.env) fp) vx tv) (hs : ∀ x, foldedSetIterable iter X.env x = pure x := by intro _; rfl) :
    PS X (.Assign [.Name y py] (.DictComp kx vx [⟨tg, iter, ifs, 0⟩] scope pos) spos) (tAsg (tDc wi g tt tk tv (own.map (·.2))) (gName i)) := by
  refine ⟨fun pins s σ H D I h => ?_⟩
  rw [exec_Assign_Name_used _ _ _ _ hsw]
  refine wpAny_bind (wpAny_standAt (wpAny_bind ?_))
  show wpAny _ X.A (do let _ ← comprehension (.DictComp kx vx [⟨tg, iter, ifs, 0⟩] scope pos) scope X.env (firstIterPos [⟨tg, iter, ifs, 0⟩] pos) newDict false (eval iter X.env) (some (assign (.Name y py) X.env))) _ _ s
  have h : tDc wi g tt tk tv (own.map (·.2)) σ H (fun x H1 => gName i x σ H1 D.nx) := h
  refine wpAny_bind (thn (dc_core (Qf := fun _ s' => SP X pins D .next s') hc hN I hi ok hg ht hk he hs h fun L C s' m H' I' q hn f => ?_) fun _ s' hq => wpAny_pure (wpAny_pure hq))
  show wpAny _ _ (assign (.Name y py) X.env (.ref L)) _ _ _
  refine wpAny_assign_Name (store_ok2 (v := V.ref L) I' hN hy (.inl hyl) rfl (fun s2 I2 ⟨a, sb, ha⟩ => ?_) (.inr hyl))
  obtain ⟨f0, f1, f2, f3, f4, f5⟩ := f
  have haC : C ≠ a := by
    rcases ha with z | z
    · rw [z]; exact f1
    · exact fun e => f4 y a z e.symm
  refine ⟨m, hn.sameBut sb haC, fun h3 sb3 => ?_⟩
  exact ⟨_, H', I2.turned (t' := s2.toks) (fun b o hb e => (sb3.2 b hb).trans e) f0 f1 f3 f4 f5, q⟩
theorem sw_trueD {kx vx : Expr} {gs : List Comprehension} {scope : Scope} {pos py : Pos} {y : Str} {l : Nat} {env : Env} (hk : env.scope.kind = .function) (hy : env.scope.names.lookup y = some .local) (hl : (py.line == pos.line) = true)
    (ha : (scope.names.any fun (n, k) => n == y && (k == .local || k == .cell)) = false) : swapsWith (.DictComp kx vx gs scope pos) (some (.Name y py)) l env = pure true := by
  have ky : env.kindOf y = some .local := hy
  have hb : env.blockKind = .function := by unfold Env.blockKind; rw [hk]; rfl
  unfold swapsWith
  simp only [hb, ky, ha, Expr.pos, hl]
  rfl
end
end Ev

namespace Ev
open PySem L2
open C8 (pss_cut tCut InsC)
/-- the greatest closed lot has no comers, and no other one has none -/
theorem left_full {n : Nat} : ∀ {m : Nat}, leftN m n = 0 → ∀ k, k < m → n.testBit k = true
  | 0, _, k, h => absurd h (Nat.not_lt_zero k)
  | m + 1, e, k, h => by
    rw [leftN_succ] at e
    by_cases c : n.testBit m = true
    · by_cases q : k = m
      · rw [q]
        exact c
      · exact left_full (m := m) (by omega) k (by omega)
    · rw [if_neg c] at e
      omega
theorem full_top {m n k : Nat} (e : leftN m n = 0) (hk : k < 2 ^ m) : k ≤ n := by
  have h : k &&& n = k := Nat.eq_of_testBit_eq fun i => by
    rw [Nat.testBit_and]
    cases c : k.testBit i with
    | false => rfl
    | true =>
      have : i < m := by
        by_cases q : i < m
        · exact q
        · rw [Nat.testBit_lt_two_pow (Nat.lt_of_lt_of_le hk (Nat.pow_le_pow_right (by decide) (by omega)))] at c
          cases c
      rw [left_full e i this]
      rfl
  rw [← h]
  exact Nat.and_le_right
theorem mem_closedL {bs : List Nat} {n : Nat} : n ∈ closedL bs ↔ n < 2 ^ bs.length ∧ closedB bs n = true := by
  unfold closedL
  rw [List.mem_filter, List.mem_range]
theorem put_closed {m : Nat} {ps : List Pr} {bs : List Nat} (N : Needs m ps bs) (bd : In m ps) {n k : Nat} (mn : n ∈ closedL bs) (mk : k ∈ comersL bs n) : n ||| 2 ^ k ∈ closedL bs ∧ n < n ||| 2 ^ k := by
  have c := mem_closedL.mp mn
  have ck := mem_comers.mp mk
  exact ⟨mem_closedL.mpr ⟨put_lt c.1 ck.1, closed_put N bd c.2 mk⟩, put_gt ck.2.1⟩
theorem top_none {m : Nat} {ps : List Pr} {bs : List Nat} (N : Needs m ps bs) (bd : In m ps) {M : Nat} (mM : M ∈ closedL bs) (top : ∀ n ∈ closedL bs, n ≤ M) : comersL bs M = [] := by
  cases q : comersL bs M with
  | nil => rfl
  | cons k r =>
    have h := put_closed N bd mM (k := k) (by rw [q]; exact List.mem_cons_self)
    have := top _ h.1
    omega
theorem none_top {m : Nat} {ps : List Pr} {bs : List Nat} (N : Needs m ps bs) (bd : In m ps) (ok : UpsOk ps) {n M : Nat} (mM : M ∈ closedL bs) (mn : n ∈ closedL bs) (top : ∀ n ∈ closedL bs, n ≤ M) (ne : n ≠ M) : comersL bs n ≠ [] := by
  refine some_comer N bd ok ?_
  by_cases e : 0 < leftN m n
  · exact e
  · have h := full_top (m := m) (n := n) (k := M) (by omega) (by rw [← N.len]; exact (mem_closedL.mp mM).1)
    have := top n mn
    omega
def nxD (L : List (Nat × Addr)) : List (Key × V) := L.map fun q => ((.inl (q.1 : Int) : Key), V.ref q.2)
theorem nxD_keys (L : List (Nat × Addr)) : (nxD L).map (·.1) = (L.map fun q => (q.1 : Int)).map Sum.inl := by
  unfold nxD
  rw [List.map_map, List.map_map]
  rfl
theorem nxD_get : ∀ {L : List (Nat × Addr)} {n : Nat} {ad : Addr}, (L.map (·.1)).Nodup → (n, ad) ∈ L → valV (nxD L) (.inl (n : Int) : Key) = some (V.ref ad)
  | [], _, _, _, h => by cases h
  | (b, bd) :: L, n, ad, nd, h => by
    have nd := List.nodup_cons.mp nd
    by_cases e : b = n
    · subst e
      have e1 : valV (nxD ((b, bd) :: L)) (.inl (b : Int) : Key) = some (V.ref bd) := by
        unfold valV nxD
        simp
      rw [e1]
      rcases List.mem_cons.mp h with h | h
      · cases h
        rfl
      · exact absurd (List.mem_map.mpr ⟨_, h, rfl⟩) nd.1
    · have e1 : valV (nxD ((b, bd) :: L)) (.inl (n : Int) : Key) = valV (nxD L) (.inl (n : Int) : Key) := by
        unfold valV nxD
        have : ¬ (b : Int) = (n : Int) := by omega
        simp [this]
      rw [e1]
      rcases List.mem_cons.mp h with h | h
      · cases h
        exact absurd rfl e
      · exact nxD_get nd.2 h
theorem nxD_put {L : List (Nat × Addr)} {n : Nat} {t : Addr} (h : n ∉ L.map (·.1)) : putK (nxD L) (.inl (n : Int) : Key) (V.ref t) = nxD (L ++ [(n, t)]) := by
  rw [putK_new]
  · unfold nxD
    rw [List.map_append]
    rfl
  · unfold valV nxD
    rw [Option.map_eq_none_iff, List.find?_eq_none]
    intro q mq e
    obtain ⟨r, mr, rfl⟩ := List.mem_map.mp mq
    have e := Sum.inl.inj (of_decide_eq_true e)
    have e : r.1 = n := by
      have e : (r.1 : Int) = (n : Int) := e
      omega
    exact h (List.mem_map.mpr ⟨r, mr, e⟩)
/-- for each closed lot those who may come next -/
structure NxAt (H : Hp) (z : Addr) (bs : List Nat) (L : List (Nat × Addr)) : Prop where
  z : H z = some (.dK (nxD L))
  ks : L.map (·.1) = closedL bs
  at_ : ∀ q ∈ L, H q.2 = some (.lst (nv (comersL bs q.1)))
theorem NxAt.same {H H' : Hp} {z : Addr} {bs : List Nat} {L : List (Nat × Addr)} (h : NxAt H z bs L) (s : Same H H') : NxAt H' z bs L := ⟨s _ _ h.z, h.ks, fun q m => s _ _ (h.at_ q m)⟩
section
variable {P : Program} {w : World} {K : PySem.W.Frag} {mg : Str → Option Value} {base : Heap}
theorem closedL_len {bs : List Nat} (l8 : bs.length ≤ 8) : (closedL bs).length ≤ 256 := by
  have h1 := flt_range_len (p := closedB bs) (i := 2 ^ bs.length)
  have h2 : 2 ^ bs.length ≤ 256 := Nat.pow_le_pow_right (by decide) l8 (n := 2)
  exact Nat.le_trans h1 h2
theorem closedL_up {bs : List Nat} : (closedL bs).Pairwise (· < ·) := List.Pairwise.filter _ List.pairwise_lt_range
/-! ### nexts_of -/
def sp_nexts (K : PySem.W.Frag) : Sp := fun vs H Q _ => ∃ (d : Addr) (bs : List Nat), vs = [.ref d] ∧ SqL K H d (nv bs) ∧ bs.length ≤ 8 ∧ ∀ H' z L, Same H H' → H z = none → NxAt H' z bs L → Q (.ref z) H'
abbrev s_nexts : Stmt := topS 12 -- @nexts_of
abbrev n_nexts : List Str := ["needs", "gone"]
theorem sc_nexts : FnScope n_nexts ["needs"] (defScope s_nexts) := ⟨rfl, rfl, rfl, by decide +kernel, rfl, by decide +kernel, by decide +kernel⟩
theorem ok_nexts {f f1 f2 : Addr} {fd fd1 fd2 : FuncData} (F : Fun K "nexts_of" "nexts_of" s_nexts f fd) (D1 : Df K mg "comers" s_comers ["needs", "gone"] f1 fd1) (G1 : FnOk P w K mg base CX0 1 f1 fd1 ["needs", "gone"] (sp_comers K))
    (D2 : Df K mg "closed_bits" s_closedB ["needs"] f2 fd2) (G2 : FnOk P w K mg base CX0 3 f2 fd2 ["needs"] (sp_closedB K)) (B : Bl mg) : FnOk P w K mg base CX0 4 f fd ["needs"] (sp_nexts K) := by
  refine F.ok sc_nexts (fun vs H Q E h => ?_) (fun cdv A outer s H vs Q E hr h => ?_)
  · obtain ⟨d, bs, rfl, _⟩ := h
    rfl
  · obtain ⟨d, bs, rfl, hd, l8, q⟩ := h
    have hr1 : Room 1 _ := hr.mono (by decide)
    refine ⟨_, pss_one (ps_ret (pe_dc (own := [("gone", 1)]) (g := (gName 1)) (tt := tYes) (tk := tVar 1) (tv := tCall (sp_comers K) [] E0 (tCons (tVar 0) (tCons (tVar 1) tNil))) (by rfl) sc_nexts.nd (pi_list (pe_call G2 hr rfl D2.g D2.F.kp D2.b .nil pass0 (pa_cons (pv 0) pa_nil))) (blkOk_by (N := n_nexts) (sc := defScope s_nexts) (by decide +kernel)) (fun _ _ _ _ _ => by exact pg_name (i := 1) sc_nexts.nd rfl (Or.inl rfl)) (fun _ _ _ _ _ => by exact pts_nil) (fun _ _ _ _ _ => by exact pv 1) (fun _ _ _ _ _ => by exact pe_call G1 hr1 rfl D1.g D1.F.kp D1.b .nil pass0 (pa_cons (pv 0) (pa_cons (pv 1) pa_nil))))), ?_⟩
    refine ⟨_, rfl, d, bs, rfl, hd, l8, fun H1 e sm1 ne he => ⟨e, rfl, ⟨_, SqL.of he⟩, fun D nD => ?_⟩⟩
    refine dc_list (K := K) (a := e) (xs := nv (closedL bs)) (fun j H' => Same H1 H' ∧ ∃ L : List (Nat × Addr), H' D = some (.dK (nxD L)) ∧ L.map (·.1) = (closedL bs).take j ∧ ∀ q ∈ L, H' q.2 = some (.lst (nv (comersL bs q.1))) ∧ q.2 ≠ D) ?_ ?_ ?_ ?_
    · exact ⟨same_new nD, [], upd_same, rfl, nofun⟩
    · rintro j H' _ ⟨sm, _⟩
      exact SqL.of (sm _ _ he)
    · rintro j y H2 hj ⟨sm2, L, hD, eL, at_⟩
      obtain ⟨n, gn, rfl⟩ := nv_inv hj
      refine ⟨rfl, _, rfl, _, rfl, _, rfl, d, n, bs, rfl, sqL_same hd (sm1.trans sm2), l8, fun H3 t sm3 nt ht => ?_⟩
      have hD3 := sm3 _ _ hD
      have tD : t ≠ D := fun e => by
        rw [e, hD] at nt
        cases nt
      have lj := (List.getElem?_eq_some_iff.mp gn).1
      have nk : n ∉ L.map (·.1) := by
        rw [eL]
        intro mm
        obtain ⟨i, gi⟩ := List.getElem?_of_mem mm
        have li := (List.getElem?_eq_some_iff.mp gi).1
        rw [List.length_take] at li
        rw [List.getElem?_take, if_pos (by omega)] at gi
        have nd : (closedL bs).Nodup := closedL_up.imp fun l => by omega
        have := (List.getElem_inj nd).mp ((List.getElem?_eq_some_iff.mp gi).2.trans (List.getElem?_eq_some_iff.mp gn).2.symm)
        omega
      have ll : L.length ≤ 256 := by
        have h := congrArg List.length eL
        rw [List.length_map, List.length_take] at h
        have := closedL_len (bs := bs) l8
        omega
      refine ⟨nxD L, (.inl (n : Int) : Key), rfl, hD3, ?_, same_upd (sm2.trans sm3) nD, L ++ [(n, t)], ?_, ?_, fun r mr => ?_⟩
      · unfold nxD
        rw [List.length_map]
        exact small300 (by omega)
      · rw [upd_same, nxD_put nk]
      · rw [List.map_append, eL, take_snoc gn]
        rfl
      · rcases List.mem_append.mp mr with mr | mr
        · have h := at_ r mr
          exact ⟨by rw [upd_ne h.2]; exact sm3 _ _ h.1, h.2⟩
        · rw [List.mem_singleton.mp mr]
          refine ⟨?_, tD⟩
          show (upd H3 D _) t = _
          rw [upd_ne tD]
          exact ht
    rintro H2 ⟨sm2, L, hD, eL, at_⟩
    rw [nv_length, List.take_length] at eL
    exact q H2 D L (sm1.trans sm2) (none_of sm1 nD) ⟨hD, eL, fun r mr => (at_ r mr).1⟩
/-! ### ways_on -/
def sp_wayson (K : PySem.W.Frag) : Sp := fun vs H Q _ => ∃ (z : Addr) (m : Nat) (ps : List Pr) (bs : List Nat) (L : List (Nat × Addr)), vs = [.ref z] ∧ NxAt H z bs L ∧ m ≤ 8 ∧ Needs m ps bs ∧ In m ps ∧ UpsOk ps ∧
  ∀ H' e kvs, Same H H' → H e = none → H' e = some (.dK kvs) → (∀ n ∈ closedL bs, valV kvs (.inl (n : Int) : Key) = some (V.int (ways bs n : Nat))) → Q (.ref e) H'
abbrev s_wayson : Stmt := topS 13 -- @ways_on
abbrev n_wayson : List Str := ["nexts", "every", "ways", "gone", "name"]
theorem sc_wayson : FnScope n_wayson ["nexts"] (defScope s_wayson) := ⟨rfl, rfl, rfl, by decide +kernel, rfl, by decide +kernel, by decide +kernel⟩
theorem ok_wayson {f : Addr} {fd : FuncData} (F : Fun K "ways_on" "ways_on" s_wayson f fd) (B : Bl mg) : FnOk P w K mg base CX0 1 f fd ["nexts"] (sp_wayson K) := by
  refine F.ok sc_wayson (fun vs H Q E h => ?_) (fun cdv A outer s H vs Q E hr h => ?_)
  · obtain ⟨z, m, ps, bs, L, rfl, _⟩ := h
    rfl
  · obtain ⟨z, m, ps, bs, L, rfl, X, m8, N, bd, ok, q⟩ := h
    have hu1 : (A.deeper (PyProof.Rows.envOfC (Str.ofString "ways_on") (defScope s_wayson) s.heap.objs.size f cdv)).units + 1 < cLine := by
      have := hr.units
      omega
    have l8 : bs.length ≤ 8 := N.len.symm ▸ m8
    refine ⟨_, pss_cons (ps_set (i := 1) sc_wayson.nd rfl (Or.inl rfl) (pe_callB (cr_max rfl) (by rfl) B.max (by decide +kernel) (pa_cons (pe_callTy (call_listD rfl) (by rfl) B.list (by decide +kernel) (pa_cons (pv 0) pa_nil)) pa_nil)))
      (pss_cons (ps_set (i := 2) sc_wayson.nd rfl (Or.inr rfl) (pe_disp (pps_cons (pv 1) (pe_int) pps_nil) rfl rfl (by simp) (by decide)))
      (pss_cut (ps_for PassesOwn.never rfl (pi_list (pe_callBK (cr_sortDR rfl) (by rfl) B.sorted (by decide +kernel) (pa_cons (pv 0) pa_nil) (pk_cons (pe_bl) pk_nil))) (pg_name (i := 3) sc_wayson.nd rfl (Or.inr rfl))
        (pss_one (ps_if (pt_cmpR op_ne (pv 3) (pv 1) (nomark _))
          (pss_one (ps_dput hu1 (pv 2) (pv 3) (pe_callB (cr_sum rfl) (by rfl) B.sum (by decide +kernel) (pa_cons (pe_lc (own := [("name", 4)]) (g := (gName 4)) (tt := tYes) (te := (tDGet (tVar 2) (tOp rOrN (tVar 3) (tOp (fun x y H Q => ∃ k : Nat, x = .int 1 ∧ y = .int (k : Int) ∧ k ≤ 134217727 ∧ Q (.int (2 ^ k)) H) (tC (.int 1)) (tVar 4))))) (by rfl) sc_wayson.nd (pi_list (pe_dget hu1 (pv 0) (pv 3) (fun _ _ => rfl))) (blkOk_by (N := n_wayson) (sc := defScope s_wayson) (by decide +kernel)) (fun _ _ _ _ _ => by exact pg_name (i := 4) sc_wayson.nd rfl (Or.inl rfl)) (fun _ _ _ _ _ => by exact pts_nil) (fun _ _ _ _ _ => by exact pe_dget hu1 (pv 2) (pe_op op_orNN (pv 3) (pe_op op_oneShl pe_int (pv 4))) (fun _ _ => rfl))) pa_nil)) (by rfl)))
          (pss_nil))))
      (pss_one (ps_ret (pv 2))))), ?_⟩
    have keysI : (L.map fun q => (q.1 : Int)) = (closedL bs).map fun n : Nat => (n : Int) := by
      rw [← X.ks, List.map_map]
      rfl
    -- every
    refine ⟨_, rfl, z, nxD L, rfl, .inl X.z, fun q1 nq1 => ?_⟩
    have ek : ((nxD L).map fun kv => kV kv.1) = ((closedL bs).map fun n : Nat => (n : Int)).map V.int := by
      rw [← keysI]
      unfold nxD
      rw [List.map_map, List.map_map]
      rfl
    rw [ek]
    have s1 := same_new (o := .lst (((closedL bs).map fun n : Nat => (n : Int)).map V.int)) nq1
    have h0 : 0 ∈ closedL bs := by
      refine mem_closedL.mpr ⟨Nat.two_pow_pos _, (closedB_iff N bd).mpr fun a c _ h => ?_⟩
      rw [Nat.zero_testBit] at h
      cases h
    refine ⟨q1, _, rfl, SqL.of upd_same, ?_, fun Mi mMi topi => ?_⟩
    · rw [List.length_map]
      exact List.length_pos_of_mem h0
    obtain ⟨M, mM, rfl⟩ := List.mem_map.mp mMi
    have top : ∀ n ∈ closedL bs, n ≤ M := fun n mn => by
      have := topi _ (List.mem_map.mpr ⟨n, mn, rfl⟩)
      omega
    generalize upd H q1 (.lst (((closedL bs).map fun n : Nat => (n : Int)).map V.int)) = H1 at s1 ⊢
    -- ways
    refine fun wd nwd => ⟨_, rfl, upd_same, [(.inl (M : Int), .int 1)], rfl, (by show 1 ≤ 15; decide), ?_⟩
    have hw2 : (upd (upd H1 wd (.dK [])) wd (.dK (mergeK [] [((.inl (M : Int) : Key), V.int 1)]))) wd = some (.dK [((.inl (M : Int) : Key), V.int 1)]) := upd_same
    have s2 : Same H (upd (upd H1 wd (.dK [])) wd (.dK (mergeK [] [((.inl (M : Int) : Key), V.int 1)]))) := same_upd (s1.trans (same_new nwd)) (none_of s1 nwd)
    have nwdH : H wd = none := none_of s1 nwd
    have wM : ways bs M = 1 := ways_nil (top_none N bd mM top)
    generalize upd (upd H1 wd (.dK [])) wd (.dK (mergeK [] [((.inl (M : Int) : Key), V.int 1)])) = H2 at hw2 s2 ⊢
    refine ⟨fun σ' H' => ∃ (kvs : List (Key × V)) (v3 : Option V), σ' = [some (.ref z), some (.int (M : Int)), some (.ref wd), v3, none] ∧ Same H H' ∧ H' wd = some (.dK kvs) ∧ ∀ n ∈ closedL bs, valV kvs (.inl (n : Int) : Key) = some (V.int (ways bs n : Nat)), ?_, ?_⟩
    · refine ⟨_, rfl, z, nxD L, (closedL bs).map fun n : Nat => (n : Int), rfl, rfl, .inl (s2 _ _ X.z), by rw [nxD_keys, keysI], ?_, fun ys p pm desc np => ⟨p, rfl, ?_⟩⟩
      · rw [List.length_map]
        have := closedL_len (bs := bs) l8
        omega
      have s3 := same_new (o := .lst (ys.map V.int)) np
      have hp3 : (upd H2 p (.lst (ys.map V.int))) p = some (.lst (ys.map V.int)) := upd_same
      have hw3 := s3 _ _ hw2
      have s03 := s2.trans s3
      have pw : p ≠ wd := fun e => by
        rw [e, hw2] at np
        cases np
      have lys : ys.length ≤ 256 := by
        rw [pm.length_eq, List.length_map]
        exact closedL_len l8
      have mys : ∀ n : Nat, (n : Int) ∈ ys ↔ n ∈ closedL bs := fun n => by
        rw [pm.mem_iff, List.mem_map]
        exact ⟨fun ⟨k, mk, e⟩ => by have : k = n := by omega
                                    exact this ▸ mk, fun h => ⟨n, h, rfl⟩⟩
      generalize upd H2 p (.lst (ys.map V.int)) = H3 at s3 hp3 hw3 s03 ⊢
      refine ⟨⟨_, SqL.of hp3⟩, ?_⟩
      refine for_list (K := K) (a := p) (xs := ys.map V.int) (fun i σ' H' => ∃ (kvs : List (Key × V)) (v3 : Option V), σ' = [some (.ref z), some (.int (M : Int)), some (.ref wd), v3, none] ∧ Same H H' ∧ H' wd = some (.dK kvs) ∧ H' p = some (.lst (ys.map V.int)) ∧ kvs.length ≤ i + 1 ∧ valV kvs (.inl (M : Int) : Key) = some (V.int (ways bs M : Nat)) ∧ ∀ n : Nat, (n : Int) ∈ ys.take i → valV kvs (.inl (n : Int) : Key) = some (V.int (ways bs n : Nat))) ?_ ?_ ?_ ?_
      · refine ⟨_, none, rfl, s03, hw3, hp3, Nat.le_refl _, ?_, fun n mn => by simp at mn⟩
        rw [wM]
        exact valV_pos rfl
      · rintro i σ' H' _ ⟨_, _, _, _, _, h, _⟩
        exact SqL.of h
      · rintro i y σ' H4 hi ⟨kvs, v3, rfl, sm4, hw4, hp4, lk, vM, val⟩
        rw [List.getElem?_map] at hi
        obtain ⟨yi, gy, rfl⟩ := Option.map_eq_some_iff.mp hi
        have my := List.mem_of_getElem? gy
        obtain ⟨n, mn, rfl⟩ := List.mem_map.mp (pm.mem_iff.mp my)
        have li := (List.getElem?_eq_some_iff.mp gy).1
        refine ⟨_, rfl, _, rfl, rfl, _, rfl, ?_⟩
        by_cases eM : n = M
        · subst eM
          rw [decide_eq_true rfl]
          refine iteF ⟨kvs, _, rfl, sm4, hw4, hp4, by omega, vM, fun n' mn' => ?_⟩
          rw [take_snoc gy] at mn'
          rcases List.mem_append.mp mn' with h | h
          · exact val n' h
          · have : n' = n := by
              have := List.mem_singleton.mp h
              omega
            rw [this]
            exact vM
        · rw [decide_eq_false (fun e => eM (by have := V.int.inj e; omega))]
          obtain ⟨⟨n2, ad⟩, mL, en⟩ := List.mem_map.mp (show n ∈ L.map (·.1) by rw [X.ks]; exact mn)
          have en : n2 = n := en
          subst en
          have X4 := X.same sm4
          have had : H4 ad = some (.lst (nv (comersL bs n2))) := X4.at_ _ mL
          have gz : DGet H4 z (.int (n2 : Int)) (some (V.ref ad)) := by
            have nd : (L.map (·.1)).Nodup := by
              rw [X.ks]
              exact closedL_up.imp fun l => by omega
            rw [← nxD_get nd mL]
            exact DGet.k (k := (.inl (n2 : Int) : Key)) X4.z
          have hc := none_top N bd ok mM mn top eM
          have lc : (comersL bs n2).length ≤ 8 := Nat.le_trans (flt_range_len (p := freeB bs n2)) l8
          refine iteT ⟨_, rfl, _, rfl, z, _, rfl, gz, ad, rfl, ⟨_, SqL.of had⟩, fun D nD => ?_⟩
          refine lc_list (K := K) (a := ad) (xs := nv (comersL bs n2)) (fun j H' => Same H4 H' ∧ H' D = some (.lst ((((comersL bs n2).take j).map fun k => ((ways bs (n2 ||| 2 ^ k) : Nat) : Int)).map V.int))) ?_ ?_ ?_ ?_
          · exact ⟨same_new nD, upd_same⟩
          · rintro j H5 _ ⟨s5, _⟩
            exact SqL.of (s5 _ _ had)
          · rintro j y H5 hj ⟨s5, hD⟩
            obtain ⟨k, gk, rfl⟩ := nv_inv hj
            have mk := List.mem_of_getElem? gk
            have ck := mem_comers.mp mk
            obtain ⟨m2, gt⟩ := put_closed N bd mn mk
            have far : ((n2 ||| 2 ^ k : Nat) : Int) ∈ ys.take i := by
              obtain ⟨j2, g2⟩ := List.getElem?_of_mem ((mys _).mpr m2)
              obtain ⟨b2, e2⟩ := List.getElem?_eq_some_iff.mp g2
              obtain ⟨b1, e1⟩ := List.getElem?_eq_some_iff.mp gy
              have lt : j2 < i := by
                by_cases c : j2 < i
                · exact c
                · by_cases c2 : j2 = i
                  · subst c2
                    omega
                  · have := List.pairwise_iff_getElem.mp desc i j2 b1 b2 (by omega)
                    omega
              refine List.mem_of_getElem? (i := j2) ?_
              rw [List.getElem?_take, if_pos lt]
              exact g2
            have v2 := val _ far
            have hg4 : DGet H5 wd (.int ((n2 ||| 2 ^ k : Nat) : Int)) (some (V.int (ways bs (n2 ||| 2 ^ k) : Nat))) := by
              rw [← v2]
              exact DGet.k (k := (.inl ((n2 ||| 2 ^ k : Nat) : Int) : Key)) (s5 _ _ hw4)
            have e2 : ((2 : Int) ^ k) = ((2 ^ k : Nat) : Int) := by
              push_cast
              rfl
            refine ⟨rfl, _, rfl, _, rfl, _, rfl, k, rfl, rfl, by omega, n2, 2 ^ k, rfl, by rw [e2], wd, _, rfl, hg4, _, hD, ?_, same_upd s5 nD, ?_⟩
            · rw [List.length_map, List.length_map, List.length_take]
              exact small64 (by omega)
            · rw [upd_same, take_snoc gk, List.map_append, List.map_append]
              rfl
          rintro H5 ⟨s5, hD⟩
          rw [nv_length, List.take_length] at hD
          refine ⟨D, _, rfl, SqL.of hD, ?_⟩
          have es : ((comersL bs n2).map fun k => ((ways bs (n2 ||| 2 ^ k) : Nat) : Int)).sum = ((ways bs n2 : Nat) : Int) := by
            rw [ways_step hc, ← sum_nat, List.map_map]
            rfl
          rw [es]
          have hw5 := s5 _ _ hw4
          refine ⟨_, rfl, _, rfl, wd, _, rfl, .inl ⟨kvs, (.inl (n2 : Int) : Key), hw5, rfl, small300 (by omega), rfl⟩, _, _, rfl, same_upd (sm4.trans s5) nwdH, upd_same, ?_, ?_, ?_, fun n' h => ?_⟩
          · rw [upd_ne pw]
            exact s5 _ _ hp4
          · have := length_putK kvs (.inl (n2 : Int) : Key) (V.int (ways bs n2 : Nat))
            omega
          · rw [valV_put, if_neg (fun q => eM (by have := Sum.inl.inj q; omega))]
            exact vM
          · rw [valV_put]
            by_cases e1 : n' = n2
            · subst e1
              rw [if_pos rfl]
            · rw [if_neg (fun q => e1 (by have := Sum.inl.inj q; omega))]
              rw [take_snoc gy] at h
              rcases List.mem_append.mp h with h | h
              · exact val n' h
              · exact absurd (by have := List.mem_singleton.mp h; omega) e1
      · rintro σ' H4 ⟨kvs, v3, rfl, sm4, hw4, _, _, _, val⟩
        refine ⟨kvs, v3, rfl, sm4, hw4, fun n mn => val n ?_⟩
        rw [List.length_map, List.take_length]
        exact (mys n).mpr mn
    rintro σ' H4 ⟨kvs, v3, rfl, sm4, hw4, val⟩
    exact ⟨_, rfl, q H4 wd kvs sm4 nwdH hw4 val⟩
/-! ### rests, by those two -/
def sp_rests (K : PySem.W.Frag) : Sp := fun vs H Q _ => ∃ (d : Addr) (m : Nat) (ps : List Pr) (bs : List Nat), vs = [.ref d] ∧ SqL K H d (nv bs) ∧ m ≤ 8 ∧ Needs m ps bs ∧ In m ps ∧ UpsOk ps ∧
  ∀ H' e kvs, Same H H' → H e = none → H' e = some (.dK kvs) → (∀ n ∈ closedL bs, valV kvs (.inl (n : Int) : Key) = some (V.int (ways bs n : Nat))) → Q (.ref e) H'
abbrev s_rests : Stmt := topS 14 -- @rests
theorem sc_rests : FnScope ["needs"] ["needs"] (defScope s_rests) := ⟨rfl, rfl, rfl, by decide +kernel, rfl, by decide +kernel, by decide +kernel⟩
theorem ok_rests {f fX fW : Addr} {fd fdX fdW : FuncData} (F : Fun K "rests" "rests" s_rests f fd) (DX : Df K mg "nexts_of" s_nexts ["needs"] fX fdX) (GX : FnOk P w K mg base CX0 4 fX fdX ["needs"] (sp_nexts K)) (DW : Df K mg "ways_on" s_wayson ["nexts"] fW fdW) (B : Bl mg) :
    FnOk P w K mg base CX0 5 f fd ["needs"] (sp_rests K) := by
  have GW : FnOk P w K mg base CX0 1 fW fdW ["nexts"] (sp_wayson K) := ok_wayson DW.F B
  refine F.ok sc_rests (fun vs H Q E h => ?_) (fun cdv A outer s H vs Q E hr h => ?_)
  · obtain ⟨d, m, ps, bs, rfl, _⟩ := h
    rfl
  · obtain ⟨d, m, ps, bs, rfl, hd, m8, N, bd, ok, q⟩ := h
    have hr4 : Room 4 _ := hr
    have hr1 : Room 1 _ := hr.mono (by decide)
    refine ⟨_, pss_one (ps_ret (pe_call GW hr1 rfl DW.g DW.F.kp DW.b .nil pass0 (pa_cons (pe_call GX hr4 rfl DX.g DX.F.kp DX.b .nil pass0 (pa_cons (pv 0) pa_nil)) pa_nil))), ?_⟩
    refine ⟨_, rfl, d, bs, rfl, hd, by rw [N.len]; exact m8, fun H1 z L sm1 nz X => ?_⟩
    exact ⟨z, m, ps, bs, L, rfl, X, m8, N, bd, ok, fun H2 e kvs sm2 ne he val => q H2 e kvs (sm1.trans sm2) (none_of sm1 ne) he val⟩
end
end Ev

namespace Ev
open PySem PySem.Spec PyProof.Rows L2
/-- what the written part says of an own error class without own __init__ -/
structure ErrC (K : PySem.W.Frag) (mg : Str → Option Value) (nm : Str) (C : Addr) : Prop where
  g : mg nm = some (.ref C)
  x : PySem.W.excIn K C [.type "ValueError", .type "Exception", .type "BaseException", .type "object"] "ValueError.__new__" = true
  k : PySem.W.keepIn K (.ref C) = true
  b : PySem.W.subIn K (.ref C) (.type "BaseException") = some true
  t : PySem.W.typeIn K (.ref C) = some (.type "type")
  i : PySem.W.isClsIn K C = true
  ga : PySem.W.findIn K (.ref C) "__getattribute__" = some (some (.builtin "BaseException.__getattribute__"))
  gg : PySem.W.findIn K (.ref C) "__getattr__" = some none
  fc : PySem.W.findIn K (.ref C) "__class__" = some (some (.builtin "object.__class__"))
  mo : PySem.W.mroIn K C (.type "object") = some true
/-- what it says of object.__class__ -/
structure ObjC (K : PySem.W.Frag) : Prop where
  sp : PySem.W.specialIn K (.builtin "object.__class__") "__get__" = some (some (.builtin "getset_descriptor.__get__"))
  tk : PySem.W.takesIn K (.builtin "object.__class__") = some true
section
variable {X : Cx} {C : Addr}
/-- X() of such a class -/
theorem pmk_own0 {x : Str} {p pos : Pos} (T : ErrC X.K X.mg x C) (hg : Gl X x) (hdb : (x == ("__debug__" : Str)) = false := by decide) : PMk X (.Call (.Name x p) [] [] pos) (fun _ H Q => Q (.ref C) none H) := by
  intro pins s σ H Q I h
  refine wpAny_Call_Name_kw (ld_glob I hg T.g ?_ hdb)
  refine PySem.W.callWith_K0 I.kIn T.k ?_
  obtain ⟨bm, N, nm, qn, bs, hdct, sn, sub, ab, col, dd, k0, k1, k2, k3, k5, mN, hC, hN, hni, tl⟩ := exc_obj I.kIn T.x
  obtain ⟨hp1, g1, d1, tk1, os1⟩ := s
  show wpAny _ _ (call (.ref C) []) _ _ _
  refine wpAny_call_exc_subT PySem.F.excBase_ValueError tl hC hN hni (fun h' e hm => ?_) (Nat.zero_le _)
  exact mk_of I hm (raises_own T.b T.t) h (I.hok.gone hm.new)
/-- raise X() -/
theorem ps_raise0 {x : Str} {W : WX} {p pos pos2 : Pos} (hc : X.calm = true) (T : ErrC X.K X.mg x C) (tk : Takes X W) (hg : Gl X x) (hdb : (x == ("__debug__" : Str)) = false := by decide) : PS X (.Raise (some (.Call (.Name x p) [] [] pos)) none pos2) (fun _ σ H => W (.ref C) none σ H) :=
  ps_raise hc tk (pmk_own0 T hg hdb)
/-- isinstance(e, T), e the exception that the suite holds (at a; its class cls, without an own dict) -/
def rIsiE (K : PySem.W.Frag) (a : Addr) (cls : Value) (d : Option Addr) : List V → Hp → VK → Prop := fun xs H Q => ∃ (c : V) (u : Value) (b : Bool) (C : Addr), xs = [.ref a, c] ∧ cls = .ref C ∧ d = none ∧ ClsV c u ∧ (∃ mg nm, ErrC K mg nm C) ∧ ObjC K ∧ PySem.W.kitOne K (.ref C) u = some b ∧ Q (.bl b) H
theorem call_isiE {a : Addr} {oe : Obj} {cls : Value} {d : Option Addr} {pn : List (Addr × Obj)} (hz : Zc cls d oe) (hf : ∃ vs, oe.data = .fields vs) : CallR (X.suite a ((a, oe) :: pn)) (.builtin "isinstance") (rIsiE X.K a cls d) := by
  intro pins s σ H xs us Q I r h
  obtain ⟨c, u, b, D, rfl, rfl, rfl, k, ⟨mg, nm, T⟩, O, e, q⟩ := h
  obtain ⟨u1, u2, rfl, r1, r2⟩ := vals2 r
  have e2 := k.eq r2
  subst e2
  cases (show u1 = Value.ref a from r1)
  obtain ⟨ha, _⟩ := I.pin (a, oe) (List.mem_append_left _ List.mem_cons_self)
  obtain ⟨vs, hd⟩ := hf
  have J : PySem.W.InstAt s.heap a oe D none := ⟨ha, hz.1, by unfold PySem.W.notCls; rw [hd] <;> rfl, by rw [hz.2]; trivial⟩
  have Z := PySem.W.kitx_exc (x := a) (ox := oe) (od := none) (K := X.K) (C := D) T.i T.ga T.gg T.b T.fc O.sp O.tk T.mo
  exact PySem.W.kia_one Z I.kIn J e (fun z => by cases z) fun tk => ⟨.bl b, H, I.tok tk, rfl, q⟩
end
/-- an error of the class at S is what «except B» names -/
theorem exm_of {K : PySem.W.Frag} {S B : Addr} (h1 : PySem.W.subIn K (.ref B) (.type "BaseException") = some true) (h2 : PySem.W.isClsIn K B = true) (h3 : PySem.W.typeIn K (.ref B) = some (.type "type")) {b : Bool} (h4 : PySem.W.subIn K (.ref S) (.ref B) = some b) :
    PySem.W.exmOne K (.ref S) (.ref B) = some b := by
  have e1 : (PySem.W.subIn K (.ref B) (.type "BaseException") == some true) = true := by rw [h1] <;> rfl
  have e2 : ((PySem.W.clsIn K B).isSome && PySem.W.typeIn K (.ref B) == some (.type "type")) = true := by
    have h2' : (PySem.W.clsIn K B).isSome = true := h2
    rw [h2', h3] <;> rfl
  show (if (PySem.W.subIn K (.ref B) (.type "BaseException") == some true) = true then (if ((PySem.W.clsIn K B).isSome && PySem.W.typeIn K (.ref B) == some (.type "type")) = true then PySem.W.subIn K (.ref S) (.ref B) else none) else none) = some b
  rw [if_pos e1, if_pos e2]
  exact h4
end Ev

namespace Ev
open PySem PySem.Spec PyProof.Rows L2
section
variable {K : PySem.W.Frag} {H H' : Hp}
theorem tyOf_same {v : V} {t : Value} (h : TyOf K H v t) (k : Same H H') : TyOf K H' v t := by
  cases h with
  | non => exact .non
  | bl x => exact .bl x
  | int i => exact .int i
  | str x => exact .str x
  | flt x => exact .flt x
  | lst e => exact .lst (k _ _ e)
  | frz e => exact .frz (k _ _ e)
  | tup e => exact .tup (k _ _ e)
  | dK e => exact .dK (k _ _ e)
  | dT e => exact .dT (k _ _ e)
  | ins e cl ha hn htk hm => exact .ins (k _ _ e) cl ha hn htk hm
theorem tyX_same {v : V} {t : Value} (h : TyX K H v t) (k : Same H H') : TyX K H' v t := by
  cases h with
  | base b => exact .base (tyOf_same b k)
  | byt b => exact .byt b
  | set e => exact .set (k _ _ e)
  | kList e c => exact .kList e c
  | kTuple e c => exact .kTuple e c
  | kDict e c => exact .kDict e c
  | fTuple e => exact .fTuple (k _ _ e)
  | fDict e => exact .fDict (k _ _ e)
theorem tyOf_keep {t : Addr} {ys zs : List V} {v : V} {ty : Value} (h : TyOf K H v ty) (k : Keep t H H') (h1 : H t = some (.lst ys)) (h2 : H' t = some (.lst zs)) : TyOf K H' v ty := by
  have ne : ∀ {a : Addr} {o : HO}, H a = some o → (∀ l, o ≠ .lst l) → a ≠ t := fun {a o} e n q => by
    rw [q, h1] at e
    exact n _ (Option.some.inj e).symm
  cases h with
  | non => exact .non
  | bl x => exact .bl x
  | int i => exact .int i
  | str x => exact .str x
  | flt x => exact .flt x
  | @lst a xs e =>
    by_cases q : a = t
    · subst q
      exact .lst h2
    · exact .lst (k _ _ e q)
  | frz e => exact .frz (k _ _ e (ne e fun _ z => by cases z))
  | tup e => exact .tup (k _ _ e (ne e fun _ z => by cases z))
  | dK e => exact .dK (k _ _ e (ne e fun _ z => by cases z))
  | dT e => exact .dT (k _ _ e (ne e fun _ z => by cases z))
  | ins e cl ha hn htk hm => exact .ins (k _ _ e (ne e fun _ z => by cases z)) cl ha hn htk hm
theorem tyX_keep {t : Addr} {ys zs : List V} {v : V} {ty : Value} (h : TyX K H v ty) (k : Keep t H H') (h1 : H t = some (.lst ys)) (h2 : H' t = some (.lst zs)) : TyX K H' v ty := by
  have ne : ∀ {a : Addr} {o : HO}, H a = some o → (∀ l, o ≠ .lst l) → a ≠ t := fun {a o} e n q => by
    rw [q, h1] at e
    exact n _ (Option.some.inj e).symm
  cases h with
  | base b => exact .base (tyOf_keep b k h1 h2)
  | byt b => exact .byt b
  | set e => exact .set (k _ _ e (ne e fun _ z => by cases z))
  | kList e c => exact .kList e c
  | kTuple e c => exact .kTuple e c
  | kDict e c => exact .kDict e c
  | fTuple e => exact .fTuple (k _ _ e (ne e fun _ z => by cases z))
  | fDict e => exact .fDict (k _ _ e (ne e fun _ z => by cases z))
/-- an item: an integer, or a thing that is none -/
inductive IsI (K : PySem.W.Frag) (H : Hp) : V → Option Int → Prop where
  | int (i : Int) : IsI K H (.int i) (some i)
  | oth {v : V} {t : Value} {b1 b2 : Bool} (ty : TyX K H v t) (k1 : PySem.W.kitOne K t (.type "int") = some b1) (k2 : PySem.W.kitOne K t (.type "bool") = some b2) (e : (b1 && !b2) = false) : IsI K H v none
inductive IsL (K : PySem.W.Frag) (H : Hp) : List V → List (Option Int) → Prop where
  | nil : IsL K H [] []
  | cons {v : V} {o : Option Int} {xs : List V} {l : List (Option Int)} (h : IsI K H v o) (t : IsL K H xs l) : IsL K H (v :: xs) (o :: l)
/-- a thing: no tuple, or a tuple of items -/
inductive Thing (K : PySem.W.Frag) (H : Hp) : V → Option (List (Option Int)) → Prop where
  | not {v : V} {t : Value} (ty : TyX K H v t) (k : PySem.W.kitOne K t (.type "tuple") = some false) : Thing K H v none
  | tup {a : Addr} {xs : List V} {l : List (Option Int)} (h : SqT K H a xs) (i : IsL K H xs l) (few : xs.length ≤ 64) : Thing K H (.ref a) (some l)
theorem IsI.same {v : V} {o : Option Int} (h : IsI K H v o) (k : Same H H') : IsI K H' v o := by
  cases h with
  | int i => exact .int i
  | oth ty k1 k2 e => exact .oth (tyX_same ty k) k1 k2 e
theorem IsL.same : ∀ {xs : List V} {l : List (Option Int)}, IsL K H xs l → Same H H' → IsL K H' xs l
  | _, _, .nil, _ => .nil
  | _, _, .cons h t, k => .cons (h.same k) (t.same k)
theorem sqT_sameO {a : Addr} {xs : List V} (h : SqT K H a xs) (k : Same H H') : SqT K H' a xs := by
  rcases h with (h | ⟨o, h⟩) | h
  · exact .inl (.inl (k _ _ h))
  · exact .inl (.inr ⟨o, k _ _ h⟩)
  · exact .inr h
theorem Thing.same {v : V} {d : Option (List (Option Int))} (h : Thing K H v d) (k : Same H H') : Thing K H' v d := by
  cases h with
  | not ty q => exact .not (tyX_same ty k) q
  | tup h i few => exact .tup (sqT_sameO h k) (i.same k) few
theorem IsI.keep {t : Addr} {ys zs : List V} {v : V} {o : Option Int} (h : IsI K H v o) (k : Keep t H H') (h1 : H t = some (.lst ys)) (h2 : H' t = some (.lst zs)) : IsI K H' v o := by
  cases h with
  | int i => exact .int i
  | oth ty k1 k2 e => exact .oth (tyX_keep ty k h1 h2) k1 k2 e
theorem IsL.keep {t : Addr} {ys zs : List V} : ∀ {xs : List V} {l : List (Option Int)}, IsL K H xs l → Keep t H H' → H t = some (.lst ys) → H' t = some (.lst zs) → IsL K H' xs l
  | _, _, .nil, _, _, _ => .nil
  | _, _, .cons h t, k, h1, h2 => .cons (h.keep k h1 h2) (t.keep k h1 h2)
theorem Thing.keep {t : Addr} {ys zs : List V} {v : V} {d : Option (List (Option Int))} (h : Thing K H v d) (k : Keep t H H') (h1 : H t = some (.lst ys)) (h2 : H' t = some (.lst zs)) : Thing K H' v d := by
  cases h with
  | not ty q => exact .not (tyX_keep ty k h1 h2) q
  | tup h i few => exact .tup (sqT_keep h k h1) (i.keep k h1 h2) few
theorem IsL.len : ∀ {xs : List V} {l : List (Option Int)}, IsL K H xs l → xs.length = l.length
  | _, _, .nil => rfl
  | _, _, .cons _ t => by rw [List.length_cons, List.length_cons, t.len]
theorem IsL.get : ∀ {xs : List V} {l : List (Option Int)}, IsL K H xs l → ∀ {i : Nat} {v : V}, xs[i]? = some v → ∃ o, l[i]? = some o ∧ IsI K H v o
  | _, _, .nil, _, _, e => nomatch e
  | _, _, .cons h t, 0, _, e => by
    cases e
    exact ⟨_, rfl, h⟩
  | _, _, .cons h t, i + 1, _, e => t.get (i := i) e
theorem IsL.ints : ∀ {xs : List V} {l : List (Option Int)} {ls : List Int}, IsL K H xs l → l = ls.map some → xs = ls.map V.int
  | _, _, [], .nil, _ => rfl
  | _, _, i :: ls, .cons h t, e => by
    obtain ⟨e1, e2⟩ := List.cons.inj e
    subst e1
    cases h
    rw [t.ints e2]
    rfl
theorem IsL.of_ints : ∀ ls : List Int, IsL K H (ls.map V.int) (ls.map some)
  | [] => .nil
  | i :: ls => .cons (.int i) (.of_ints ls)
theorem thing_ints {a : Addr} {ls : List Int} (h : SqT K H a (ls.map V.int)) (few : ls.length ≤ 64) : Thing K H (.ref a) (some (ls.map some)) := .tup h (.of_ints ls) (by rwa [List.length_map])
/-! ### judged -/
def nameB (m : Int) : Option Int → Bool
  | some i => decide (0 ≤ i) && decide (i < m)
  | none => false
def intsL (l : List (Option Int)) : List Int := l.filterMap id
theorem ints_of_names {m : Int} : ∀ {l : List (Option Int)}, l.all (nameB m) = true → l = (intsL l).map some
  | [], _ => rfl
  | none :: l, h => by
    rw [List.all_cons] at h
    cases h
  | some i :: l, h => by
    rw [List.all_cons] at h
    have := ints_of_names (Bool.and_eq_true_iff.mp h).2
    show some i :: l = some i :: (intsL l).map some
    rw [← this]
theorem ints_map (ls : List Int) : intsL (ls.map some) = ls := by
  induction ls with
  | nil => rfl
  | cons i ls ih =>
    show i :: intsL (ls.map some) = i :: ls
    rw [ih]
theorem names_bd {m : Int} {l : List (Option Int)} (h : l.all (nameB m) = true) : ∀ x ∈ intsL l, 0 ≤ x ∧ x < m := fun x mx => by
  rw [List.all_eq_true] at h
  have mo : some x ∈ l := by
    obtain ⟨o, mo, e⟩ := List.mem_filterMap.mp mx
    rw [← e]
    exact mo
  have := h _ mo
  unfold nameB at this
  rw [Bool.and_eq_true, decide_eq_true_eq, decide_eq_true_eq] at this
  exact this
def lotB (m : Int) : Option (List (Option Int)) → Bool
  | none => false
  | some l => l.all (nameB m) && decide ((intsL l).Pairwise (· < ·))
/-! ### kinds -/
theorem int_of {v : V} {i : Int} (h : IsI K H v (some i)) : v = .int i := by
  cases h
  rfl
theorem is_non : IsI K H .non none := .oth (b1 := false) (b2 := false) (.base .non) (kit_ty (by decide +kernel)) (kit_ty (by decide +kernel)) rfl
theorem is_bl (b : Bool) : IsI K H (.bl b) none := .oth (b1 := true) (b2 := true) (.base (.bl b)) (kit_ty (by decide +kernel)) (kit_ty (by decide +kernel)) rfl
theorem is_str (x : Str) : IsI K H (.str x) none := .oth (b1 := false) (b2 := false) (.base (.str x)) (kit_ty (by decide +kernel)) (kit_ty (by decide +kernel)) rfl
theorem is_tup {a : Addr} (ty : TyX K H (.ref a) (.type "tuple")) : IsI K H (.ref a) none := .oth (b1 := false) (b2 := false) ty (kit_ty (by decide +kernel)) (kit_ty (by decide +kernel)) rfl
theorem th_non : Thing K H .non none := .not (.base .non) (kit_ty (by decide +kernel))
theorem th_bl (b : Bool) : Thing K H (.bl b) none := .not (.base (.bl b)) (kit_ty (by decide +kernel))
theorem th_int (i : Int) : Thing K H (.int i) none := .not (.base (.int i)) (kit_ty (by decide +kernel))
theorem th_str (x : Str) : Thing K H (.str x) none := .not (.base (.str x)) (kit_ty (by decide +kernel))
theorem th_lst {a : Addr} {xs : List V} (h : H a = some (.lst xs)) : Thing K H (.ref a) none := .not (.base (.lst h)) (kit_ty (by decide +kernel))
theorem th_dic {a : Addr} {kvs : List (Key × V)} (h : H a = some (.dK kvs)) : Thing K H (.ref a) none := .not (.base (.dK h)) (kit_ty (by decide +kernel))
end
/-! ### len(set(x)), x a tuple of ints, some perhaps alike -/
theorem len_firsts2 : ∀ {ns ks : List Int}, ks.Nodup → (∀ k, k ∈ ks ↔ k ∈ ns) → ks.length ≤ ns.length ∧ (ks.length = ns.length ↔ ns.Nodup)
  | [], ks, nd, h => by
    have e : ks = [] := List.eq_nil_iff_forall_not_mem.mpr fun k mk => nomatch (h k).mp mk
    rw [e]
    exact ⟨Nat.le_refl _, fun _ => .nil, fun _ => rfl⟩
  | a :: t, ks, nd, h => by
    by_cases at_ : a ∈ t
    · have ih := len_firsts2 (ns := t) nd fun k => (h k).trans ⟨fun m => (List.mem_cons.mp m).elim (fun e => e ▸ at_) id, fun m => List.mem_cons_of_mem _ m⟩
      rw [List.length_cons]
      exact ⟨by omega, fun e => by omega, fun n => absurd at_ (List.nodup_cons.mp n).1⟩
    · have ma : a ∈ ks := (h a).mpr List.mem_cons_self
      have l := List.length_erase_of_mem ma
      have p := List.length_pos_of_mem ma
      have ih := len_firsts2 (ns := t) (ks := ks.erase a) (nd.erase a) fun k => by
        rw [nd.mem_erase_iff, h k, List.mem_cons]
        exact ⟨fun ⟨n, m⟩ => m.resolve_left n, fun m => ⟨fun e => at_ (e ▸ m), .inr m⟩⟩
      rw [List.length_cons, List.nodup_cons]
      refine ⟨by omega, fun e => ⟨at_, ih.2.mp (by omega)⟩, fun n => ?_⟩
      have := ih.2.mpr n.2
      omega
theorem len_firsts {ns ks : List Int} (nd : ks.Nodup) (h : ∀ k, k ∈ ks ↔ k ∈ ns) : ks.length = ns.length ↔ ns.Nodup := (len_firsts2 nd h).2
section
variable {X : Cx}
def tLenSetT (K : PySem.W.Frag) (ta : TE) : TE := fun σ H Q => ta σ H fun x H1 => ∃ (l : Addr) (ns : List Int), x = V.ref l ∧ SqT K H1 l (ns.map V.int) ∧ ns.length ≤ 4000 ∧ ∀ n : Nat, (n = ns.length ↔ ns.Nodup) → Q (.int n) H1
theorem pe_lenSetT {a : Expr} {ta : TE} {p p2 q pos : Pos} (hc : X.calm = true) (hg : Gl X "len") (hm : X.mg "len" = none) (hg2 : Gl X "set") (hm2 : X.mg "set" = none) (ha : PE X a ta)
    (na : starEach [a] X.env = (false, eval a X.env) :: starEach [] X.env := by rfl) : PE X (.Call (.Name "len" p) [.Call (.Name "set" p2) [a] [] q] [] pos) (tLenSetT X.K ta) := by
  refine ⟨fun pins s σ H Q I h => ?_⟩
  refine Call_ (ld_blt I hg hm PySem.boot_len ?_)
  refine PyProof.Rows.callWith_builtin1 (PyProof.Rows.args_cons ?_ rfl) rfl rfl
  refine Call_ (ld_blt I hg2 hm2 PyProof.Rows.boot_set ?_)
  refine PyProof.Rows.callWith_type1 (PyProof.Rows.args_cons (thn (ha.run pins s σ H _ I h) fun v s1 ⟨x, H1, I1, r1, q1⟩ => PyProof.Rows.args_nil ?_) na) na rfl
  obtain ⟨l, ns, rfl, hq, hl, q1⟩ := q1
  cases r1
  obtain ⟨its, r, pl, hz⟩ := I1.tuple hq
  refine call_set_tupI (ns := ns) (I1.ok.hd hc) pl (by simpa using r.ints) (by unfold scanBound; omega) fun h' tk c hS cl hk => ?_
  refine PyProof.Rows.args_nil ?_
  obtain ⟨o, es, ep, t, ho, hex, hd, _, nd, mem, sb, hf, hn, _, _⟩ := hS
  have I2 : Inv X pins σ H1 { s1 with heap := h', toks := tk } := I1.kept fun b o e => hk b o e
  have e : c = ns.length ↔ ns.Nodup := by
    rw [← hn, show es.size = (es.toList.map keyOf).length by rw [List.length_map, Array.length_toList]]
    exact len_firsts nd fun k => (mem k).symm.trans decide_eq_true_iff
  exact call_len_set ho hex hd hf (by rw [hn] <;> omega) ⟨.int c, H1, I2.tok _, ⟨_, by rw [hn]⟩, q1 c e⟩
end
end Ev

namespace Ev
open PySem L2
theorem lv_rows {m : Nat} : ∀ (s r : List Int), (∀ x ∈ s, 0 ≤ x ∧ x < m) → (r ++ s).Nodup → lv m (r ++ s) + s.length = lv m r
  | [], r, _, _ => by
    rw [List.append_nil]
    rfl
  | a :: s, r, bd, nd => by
    have e : r ++ a :: s = (r ++ [a]) ++ s := by rw [List.append_assoc]; rfl
    rw [e] at nd ⊢
    have ih := lv_rows s (r ++ [a]) (fun x mx => bd x (List.mem_cons_of_mem _ mx)) nd
    have nd2 := (List.nodup_append.mp nd).1
    have na : a ∉ r := fun h => (List.nodup_append.mp nd2).2.2 a h a List.mem_cons_self rfl
    have p := lv_put (m := m) (row := r) (bd a List.mem_cons_self) na
    rw [List.length_cons]
    omega
theorem lv_len {m : Nat} {ls : List Int} (bd : ∀ x ∈ ls, 0 ≤ x ∧ x < m) (nd : ls.Nodup) : lv m ls + ls.length = m := by
  have := lv_rows (m := m) ls [] bd nd
  rwa [List.nil_append, lv_nil] at this
theorem left_lv {m : Nat} {ls : List Int} (bd : ∀ x ∈ ls, 0 ≤ x ∧ x < m) (nd : ls.Nodup) : leftN m (nb ls) = lv m ls := by
  unfold leftN lv upto
  rw [List.filter_map, List.length_map]
  congr 1
  refine List.filter_congr fun k _ => ?_
  have h := nb_row nd (fun x mx => (bd x mx).1) (k : Int) (by omega)
  rw [Int.toNat_natCast] at h
  show (!(nb ls).testBit k) = !decide ((k : Int) ∈ ls)
  congr 1
  refine Bool.eq_iff_iff.mpr ?_
  rw [h, decide_eq_true_iff]
/-- the number of ways to go on -/
def restI (m : Nat) (ps : List Pr) (ls : List Int) : Nat := cnt m ps (m - ls.length) ls
theorem ways_rest {m : Nat} {ps : List Pr} {bs : List Nat} (N : Needs m ps bs) (bd : In m ps) (ok : UpsOk ps) {ls : List Int} (L : LotOk m ls) : ways bs (nb ls) = restI m ps ls := by
  have e := lv_len L.bd L.nd
  have h := ways_rows N bd ok (lv m ls) (nb ls) ls (left_lv L.bd L.nd) fun a h0 => nb_row L.nd (fun x mx => (L.bd x mx).1) a h0
  rw [← h]
  unfold restI cnt
  rw [show m - ls.length = lv m ls by omega]
theorem lot_of_B {m : Nat} {l : List (Option Int)} (h : lotB m (some l) = true) : l = (intsL l).map some ∧ LotOk m (intsL l) := by
  have h : (l.all (nameB m) && decide ((intsL l).Pairwise (· < ·))) = true := h
  have h := Bool.and_eq_true_iff.mp h
  exact ⟨ints_of_names h.1, of_decide_eq_true h.2, names_bd h.1⟩
theorem lot_B {m : Nat} {ls : List Int} (L : LotOk m ls) : lotB m (some (ls.map some)) = true := by
  show (((ls.map some).all (nameB m)) && decide ((intsL (ls.map some)).Pairwise (· < ·))) = true
  rw [ints_map, decide_eq_true L.up, Bool.and_true, List.all_eq_true]
  intro o mo
  obtain ⟨x, mx, rfl⟩ := List.mem_map.mp mo
  have := L.bd x mx
  show (decide (0 ≤ x) && decide (x < m)) = true
  rw [decide_eq_true this.1, decide_eq_true this.2]
  rfl
end Ev

namespace Ev
open PySem L2
/-! ### how lots may have come -/
theorem nb_snocB (r : List Int) (a : Int) (nd : (r ++ [a]).Nodup) (h0 : ∀ x ∈ r ++ [a], 0 ≤ x) : nb (r ++ [a]) = nb r ||| 2 ^ a.toNat := by
  have ndr := (List.nodup_append.mp nd).1
  have ha := h0 a (List.mem_append.mpr (.inr List.mem_cons_self))
  refine Nat.eq_of_testBit_eq fun i => ?_
  have e1 := nb_row nd h0 (i : Int) (by omega)
  have e2 := nb_row ndr (fun x mx => h0 x (List.mem_append.mpr (.inl mx))) (i : Int) (by omega)
  rw [Int.toNat_natCast] at e1 e2
  refine Bool.eq_iff_iff.mpr ?_
  rw [e1, Nat.testBit_or, Bool.or_eq_true, e2, Nat.testBit_two_pow, decide_eq_true_eq, List.mem_append, List.mem_singleton]
  exact or_congr Iff.rfl ⟨fun e => by omega, fun e => by omega⟩
def rowsN (m : Nat) (ps : List Pr) (t : Nat) (g : Nat) : Nat := ((rowsFrom m ps t []).filter fun r => decide (nb r = g)).length
def arr (m : Nat) (ps : List Pr) (g : Nat) : Nat := ((List.range (m + 1)).map fun t => rowsN m ps t g).sum
/-- whether g comes of c by one name more -/
def hh (bs : List Nat) (c g : Nat) : Nat := ((comersL bs c).filter fun k => decide (c ||| 2 ^ k = g)).length
theorem row_bits {m : Nat} {ps : List Pr} (bd : In m ps) {t : Nat} {r : List Int} (h : r ∈ rowsFrom m ps t []) : r.length = t ∧ r.Nodup ∧ (∀ x ∈ r, 0 ≤ x ∧ x < m) ∧ nb r = nb (setI m r) := by
  obtain ⟨rl, rnd, rbd⟩ := mem_level bd h
  refine ⟨rl, rnd, rbd, Nat.eq_of_testBit_eq fun i => ?_⟩
  have e1 := nb_row rnd (fun x mx => (rbd x mx).1) (i : Int) (by omega)
  have L := setI_lot m r
  have e2 := nb_row L.nd (fun x mx => (L.bd x mx).1) (i : Int) (by omega)
  rw [Int.toNat_natCast] at e1 e2
  exact Bool.eq_iff_iff.mpr (e1.trans ((mem_setI rbd).symm.trans e2.symm))
theorem row_in {m : Nat} {ps : List Pr} {bs : List Nat} (N : Needs m ps bs) (bd : In m ps) {t : Nat} {r : List Int} (h : r ∈ rowsFrom m ps t []) : nb r ∈ closedL bs := by
  obtain ⟨rl, rnd, rbd, e⟩ := row_bits bd h
  have rc := row_closed h
  have ms : ∀ x, x ∈ setI m r ↔ x ∈ r := fun x => mem_setI rbd
  have L := setI_lot m r
  rw [e]
  unfold closedL
  rw [List.mem_filter, List.mem_range, N.len]
  refine ⟨nb_lt L.up L.bd, ?_⟩
  rw [closed_same N bd L.up L.bd]
  exact closedI_iff.mpr fun a c mp mc => (ms a).mpr (rc a c mp ((ms c).mp mc))
theorem closed_nodup (bs : List Nat) : (closedL bs).Nodup := (List.nodup_range).sublist List.filter_sublist
theorem row_free {m : Nat} {ps : List Pr} {bs : List Nat} (N : Needs m ps bs) (bd : In m ps) {t : Nat} {r : List Int} (h : r ∈ rowsFrom m ps t []) : freeI m ps r = (comersL bs (nb r)).map fun k : Nat => (k : Int) := by
  obtain ⟨rl, rnd, rbd, e⟩ := row_bits bd h
  exact (comers_gen N bd fun a h0 => nb_row rnd (fun x mx => (rbd x mx).1) a h0).symm
theorem put_bits {m : Nat} {ps : List Pr} (bd : In m ps) {t : Nat} {r : List Int} (h : r ∈ rowsFrom m ps t []) {k : Nat} (hk : (k : Int) ∈ freeI m ps r) : nb (r ++ [(k : Int)]) = nb r ||| 2 ^ k := by
  obtain ⟨rl, rnd, rbd, e⟩ := row_bits bd h
  have c := mem_freeI.mp hk
  have := nb_snocB r (k : Int) (List.nodup_append.mpr ⟨rnd, List.nodup_cons.mpr ⟨nofun, .nil⟩, fun x mx y my e => by
    rw [List.mem_singleton.mp my] at e
    exact c.2.1 (e ▸ mx)⟩) fun x mx => by
      rcases List.mem_append.mp mx with mx | mx
      · exact (rbd x mx).1
      · rw [List.mem_singleton.mp mx]
        omega
  rwa [Int.toNat_natCast] at this
/-- what is summed over the rows of one length, by their bits -/
theorem sum_bits {m : Nat} {ps : List Pr} {bs : List Nat} (N : Needs m ps bs) (bd : In m ps) (t : Nat) (f : Nat → Nat) : ((rowsFrom m ps t []).map fun r => f (nb r)).sum = ((closedL bs).map fun c => rowsN m ps t c * f c).sum := by
  have e1 : ((rowsFrom m ps t []).map fun r => f (nb r)) = (rowsFrom m ps t []).map fun r => ((closedL bs).map fun c => if decide (nb r = c) = true then f c else 0).sum := by
    refine List.map_congr_left fun r mr => ?_
    rw [sum_one (fun c => decide (nb r = c)) f (nb r) (closed_nodup bs) (row_in N bd mr) fun c _ => ?_]
    rw [decide_eq_true_eq]
    exact ⟨fun e => e.symm, fun e => e.symm⟩
  rw [e1, sum_swap]
  congr 1
  refine List.map_congr_left fun c _ => ?_
  rw [sum_if]
  rfl
theorem rowsN_step {m : Nat} {ps : List Pr} {bs : List Nat} (N : Needs m ps bs) (bd : In m ps) (t g : Nat) : rowsN m ps (t + 1) g = ((closedL bs).map fun c => rowsN m ps t c * hh bs c g).sum := by
  rw [← sum_bits N bd t fun c => hh bs c g]
  unfold rowsN
  rw [rows_level, List.filter_flatMap, List.length_flatMap]
  congr 1
  refine List.map_congr_left fun r mr => ?_
  unfold ext hh
  rw [row_free N bd mr, List.map_map, List.filter_map, List.length_map]
  congr 1
  refine List.filter_congr fun k mk => ?_
  show decide (nb (r ++ [(k : Int)]) = g) = _
  rw [put_bits bd mr (by rw [row_free N bd mr]; exact List.mem_map.mpr ⟨k, mk, rfl⟩)]
theorem rows_over {m : Nat} {ps : List Pr} (bd : In m ps) : rowsFrom m ps (m + 1) [] = [] := List.eq_nil_iff_forall_not_mem.mpr fun r mr => by
  obtain ⟨rl, rnd, rbd, _⟩ := row_bits bd mr
  have pm : (setI m r).Perm r := (List.perm_ext_iff_of_nodup (setI_lot m r).nd rnd).mpr fun x => mem_setI rbd
  have := (setI_lot m r).len
  rw [pm.length_eq] at this
  omega
theorem sum_zero : ∀ {l : List Nat}, (∀ x ∈ l, x = 0) → l.sum = 0
  | [], _ => rfl
  | a :: l, h => by rw [List.sum_cons, h a List.mem_cons_self, sum_zero fun x mx => h x (List.mem_cons_of_mem _ mx)]
theorem sum_add {α : Type} (f g : α → Nat) : ∀ l : List α, (l.map fun a => f a + g a).sum = (l.map f).sum + (l.map g).sum
  | [] => rfl
  | a :: l => by
    rw [List.map_cons, List.map_cons, List.map_cons, List.sum_cons, List.sum_cons, List.sum_cons, sum_add f g l]
    omega
theorem sum_mulr {α : Type} (f : α → Nat) (c : Nat) : ∀ l : List α, (l.map fun a => f a * c).sum = (l.map f).sum * c
  | [] => (Nat.zero_mul _).symm
  | a :: l => by rw [List.map_cons, List.map_cons, List.sum_cons, List.sum_cons, sum_mulr f c l, Nat.add_mul]
theorem sum_shift (f : Nat → Nat) : ∀ n : Nat, ((List.range (n + 1)).map f).sum = f 0 + ((List.range n).map fun t => f (t + 1)).sum := fun n => by
  rw [List.range_succ_eq_map, List.map_cons, List.sum_cons, List.map_map]
  rfl
theorem sum_last (f : Nat → Nat) (n : Nat) : ((List.range (n + 1)).map f).sum = ((List.range n).map f).sum + f n := by
  rw [List.range_succ, List.map_append, List.sum_append]
  show _ + (f n + 0) = _
  omega
theorem arr_step {m : Nat} {ps : List Pr} {bs : List Nat} (N : Needs m ps bs) (bd : In m ps) {g : Nat} (g0 : g ≠ 0) : arr m ps g = ((closedL bs).map fun c => arr m ps c * hh bs c g).sum := by
  have e1 : arr m ps g = ((List.range (m + 1)).map fun t => rowsN m ps (t + 1) g).sum := by
    have h1 := sum_shift (fun t => rowsN m ps t g) (m + 1)
    have h2 := sum_last (fun t => rowsN m ps t g) (m + 1)
    have z0 : rowsN m ps 0 g = 0 := by
      unfold rowsN
      show (([[]] : List (List Int)).filter fun r => decide (nb r = g)).length = 0
      rw [List.filter_cons_of_neg (by
        rw [decide_eq_true_eq]
        exact fun e => g0 e.symm)]
      rfl
    have z1 : rowsN m ps (m + 1) g = 0 := by
      unfold rowsN
      rw [rows_over bd]
      rfl
    unfold arr
    omega
  rw [e1]
  have e2 : ((List.range (m + 1)).map fun t => rowsN m ps (t + 1) g) = (List.range (m + 1)).map fun t => ((closedL bs).map fun c => rowsN m ps t c * hh bs c g).sum := List.map_congr_left fun t _ => rowsN_step N bd t g
  rw [e2, sum_swap]
  congr 1
  refine List.map_congr_left fun c _ => ?_
  rw [sum_mulr]
  rfl
theorem arr_zero {m : Nat} {ps : List Pr} (bd : In m ps) : arr m ps 0 = 1 := by
  unfold arr
  rw [sum_shift]
  have z : ((List.range m).map fun t => rowsN m ps (t + 1) 0).sum = 0 := by
    refine sum_zero fun x mx => ?_
    obtain ⟨t, _, rfl⟩ := List.mem_map.mp mx
    unfold rowsN
    rw [List.length_eq_zero_iff, List.filter_eq_nil_iff]
    intro r mr e
    have e := of_decide_eq_true e
    obtain ⟨rl, rnd, rbd, _⟩ := row_bits bd mr
    cases r with
    | nil => cases rl
    | cons a r =>
      have b := rbd a List.mem_cons_self
      have h := (nb_row rnd (fun x mx => (rbd x mx).1) a b.1).mpr List.mem_cons_self
      rw [e, Nat.zero_testBit] at h
      cases h
  rw [z]
  rfl
/-- only rows as long as the lot come to it -/
theorem rowsN_len {m : Nat} {ps : List Pr} (bd : In m ps) {t c : Nat} (h : (bitsOf m c).length ≠ t) : rowsN m ps t c = 0 := by
  unfold rowsN
  rw [List.length_eq_zero_iff, List.filter_eq_nil_iff]
  intro r mr e
  have e := of_decide_eq_true e
  obtain ⟨rl, rnd, rbd, es⟩ := row_bits bd mr
  have L := setI_lot m r
  have l2 := lotI_nb L.up L.bd
  rw [← es, e] at l2
  have pm : (setI m r).Perm r := (List.perm_ext_iff_of_nodup L.nd rnd).mpr fun x => mem_setI rbd
  have := congrArg List.length l2
  unfold lotI at this
  rw [List.length_map, pm.length_eq, rl] at this
  exact h this
theorem arr_rows {m : Nat} {ps : List Pr} (bd : In m ps) {t c : Nat} (ht : t ≤ m) (h : (bitsOf m c).length = t) : arr m ps c = rowsN m ps t c := by
  unfold arr
  have e : ((List.range (m + 1)).map fun s => rowsN m ps s c) = (List.range (m + 1)).map fun s => if decide (s = t) = true then rowsN m ps t c else 0 := List.map_congr_left fun s _ => by
    by_cases q : s = t
    · rw [if_pos (decide_eq_true q), q]
    · rw [if_neg (fun z => q (of_decide_eq_true z)), rowsN_len bd (by omega)]
  rw [e, sum_one (fun s => decide (s = t)) (fun _ => rowsN m ps t c) t List.nodup_range (List.mem_range.mpr (by omega)) fun s _ => decide_eq_true_iff]
/-- in how many orders a name stands at a place -/
def placeN (m : Nat) (ps : List Pr) (a : Int) (p : Nat) : Nat := ((ordersL m ps).filter fun row => decide (row[p]? = some a)).length
def atB (bs : List Nat) (c k : Nat) : Nat := if k ∈ comersL bs c then ways bs (c ||| 2 ^ k) else 0
theorem place_sum {m : Nat} {ps : List Pr} {bs : List Nat} (N : Needs m ps bs) (bd : In m ps) (ok : UpsOk ps) {k p : Nat} (hp : p < m) : placeN m ps (k : Int) p = ((closedL bs).map fun c => rowsN m ps p c * atB bs c k).sum := by
  rw [← sum_bits N bd p fun c => atB bs c k]
  unfold placeN ordersL
  have sp := rows_split (m := m) (ps := ps) (m - p - 1 + 1) p []
  rw [show p + (m - p - 1 + 1) = m by omega] at sp
  rw [sp, List.filter_flatMap, List.length_flatMap]
  congr 1
  refine List.map_congr_left fun r mr => ?_
  obtain ⟨rl, rnd, rbd, es⟩ := row_bits bd mr
  show (((freeI m ps r).flatMap fun a => rowsFrom m ps (m - p - 1) (r ++ [a])).filter fun row => decide (row[p]? = some (k : Int))).length = _
  rw [List.filter_flatMap, List.length_flatMap]
  have inner : ((freeI m ps r).map fun a => ((rowsFrom m ps (m - p - 1) (r ++ [a])).filter fun row => decide (row[p]? = some (k : Int))).length) = (freeI m ps r).map fun a => if decide (a = (k : Int)) = true then cnt m ps (m - p - 1) (r ++ [(k : Int)]) else 0 := by
    refine List.map_congr_left fun a ma => ?_
    have key : ∀ row ∈ rowsFrom m ps (m - p - 1) (r ++ [a]), row[p]? = some a := by
      intro row mrow
      obtain ⟨tl, e, _⟩ := mem_rows.mp mrow
      rw [e, List.append_assoc, List.getElem?_append_right (by omega), rl, Nat.sub_self]
      rfl
    by_cases q : a = (k : Int)
    · subst q
      rw [if_pos (decide_eq_true rfl), List.filter_eq_self.mpr fun row mrow => decide_eq_true (key row mrow)]
      rfl
    · rw [if_neg (fun z => q (of_decide_eq_true z)), List.length_eq_zero_iff, List.filter_eq_nil_iff]
      intro row mrow z
      rw [decide_eq_true_eq, key row mrow] at z
      exact q (Option.some.inj z)
  rw [inner]
  unfold atB
  have mk : (k : Int) ∈ freeI m ps r ↔ k ∈ comersL bs (nb r) := by
    rw [row_free N bd mr, List.mem_map]
    exact ⟨fun ⟨j, mj, e⟩ => by
      have : j = k := by omega
      exact this ▸ mj, fun mk => ⟨k, mk, rfl⟩⟩
  by_cases h : k ∈ comersL bs (nb r)
  · rw [if_pos h, sum_one (fun a => decide (a = (k : Int))) (fun _ => cnt m ps (m - p - 1) (r ++ [(k : Int)])) (k : Int) free_nodup (mk.mpr h) fun a _ => decide_eq_true_iff]
    have lk := left_of_comer h
    rw [N.len] at lk
    have c := mem_freeI.mp (mk.mpr h)
    have nd2 : (r ++ [(k : Int)]).Nodup := List.nodup_append.mpr ⟨rnd, List.nodup_cons.mpr ⟨nofun, .nil⟩, fun x mx y my e => by
      rw [List.mem_singleton.mp my] at e
      exact c.2.1 (e ▸ mx)⟩
    have bd2 : ∀ x ∈ r ++ [(k : Int)], 0 ≤ x ∧ x < m := fun x mx => by
      rcases List.mem_append.mp mx with mx | mx
      · exact rbd x mx
      · rw [List.mem_singleton.mp mx]
        exact c.1
    have ll := lv_len bd2 nd2
    rw [List.length_append, List.length_singleton, rl] at ll
    rw [← put_bits bd mr (mk.mpr h)]
    have e := ways_rows N bd ok (lv m (r ++ [(k : Int)])) (nb (r ++ [(k : Int)])) (r ++ [(k : Int)]) (left_lv bd2 nd2) fun a h0 => nb_row nd2 (fun x mx => (bd2 x mx).1) a h0
    rw [← e]
    unfold cnt
    rw [show m - p - 1 = lv m (r ++ [(k : Int)]) by omega]
  · rw [if_neg h]
    refine sum_zero fun x mx => ?_
    obtain ⟨a, ma, rfl⟩ := List.mem_map.mp mx
    rw [if_neg]
    intro z
    exact h (mk.mp (of_decide_eq_true z ▸ ma))
end Ev

namespace Ev
open PySem L2
/-! ### tables of numbers -/
def tab (L : List Nat) (f : Nat → Nat) : List (Key × V) := L.map fun c => ((.inl ((c : Nat) : Int) : Key), V.int (f c : Nat))
theorem tab_length (L : List Nat) (f : Nat → Nat) : (tab L f).length = L.length := List.length_map _
theorem tab_val {f : Nat → Nat} {g : Nat} : ∀ {L : List Nat}, g ∈ L → valV (tab L f) (.inl (g : Int) : Key) = some (V.int (f g : Nat))
  | [], h => nomatch h
  | c :: L, h => by
    show valV (((.inl ((c : Nat) : Int) : Key), V.int (f c : Nat)) :: tab L f) _ = _
    by_cases e : c = g
    · subst e
      rw [valV_pos rfl]
    · rw [valV_neg (fun q => e (by have := Sum.inl.inj q; omega))]
      exact tab_val ((List.mem_cons.mp h).resolve_left fun q => e q.symm)
theorem tab_none {f : Nat → Nat} {g : Nat} : ∀ {L : List Nat}, g ∉ L → valV (tab L f) (.inl (g : Int) : Key) = none
  | [], _ => rfl
  | c :: L, h => by
    show valV (((.inl ((c : Nat) : Int) : Key), V.int (f c : Nat)) :: tab L f) _ = _
    rw [valV_neg (fun q => h (by
      have := Sum.inl.inj q
      have : c = g := by omega
      exact this ▸ List.mem_cons_self))]
    exact tab_none fun m => h (List.mem_cons_of_mem _ m)
theorem tab_put {L : List Nat} {f : Nat → Nat} {g v : Nat} (h : g ∈ L) : putK (tab L f) (.inl (g : Int) : Key) (V.int (v : Nat)) = tab L (fun c => if c = g then v else f c) := by
  unfold putK
  rw [valV_any, tab_val h]
  show (if true = true then _ else _) = _
  rw [if_pos rfl]
  unfold tab
  rw [List.map_map]
  refine List.map_congr_left fun c _ => ?_
  show (if (.inl ((c : Nat) : Int) : Key) = (.inl (g : Int) : Key) then ((.inl ((c : Nat) : Int) : Key), V.int (v : Nat)) else ((.inl ((c : Nat) : Int) : Key), V.int (f c : Nat))) = _
  show _ = ((.inl ((c : Nat) : Int) : Key), V.int ((if c = g then v else f c : Nat) : Int))
  by_cases e : c = g
  · rw [if_pos (by rw [e]), if_pos e]
  · rw [if_neg (fun q => e (by have := Sum.inl.inj q; omega)), if_neg e]
theorem tab_new {L : List Nat} {f : Nat → Nat} {g v : Nat} (h : g ∉ L) (e : f g = v) : putK (tab L f) (.inl (g : Int) : Key) (V.int (v : Nat)) = tab (L ++ [g]) f := by
  rw [putK_new _ (tab_none h)]
  unfold tab
  rw [List.map_append, ← e]
  rfl
theorem tab_congr {L : List Nat} {f g : Nat → Nat} (h : ∀ c ∈ L, f c = g c) : tab L f = tab L g := List.map_congr_left fun c mc => by rw [h c mc]
/-! ### the arrivals, lot by lot -/
/-- when some lots are done -/
def come (m : Nat) (ps : List Pr) (bs : List Nat) (L : List Nat) (g : Nat) : Nat := (if g = 0 then 1 else 0) + (L.map fun c => arr m ps c * hh bs c g).sum
theorem hh_less {bs : List Nat} {c g : Nat} (h : g ≤ c) : hh bs c g = 0 := by
  unfold hh
  rw [List.length_eq_zero_iff, List.filter_eq_nil_iff]
  intro k mk e
  have e := of_decide_eq_true e
  have b := (mem_comers.mp mk).2.1
  have l : c ≤ c ||| 2 ^ k := Nat.left_le_or
  have : c ||| 2 ^ k = c := by omega
  have t := congrArg (Nat.testBit · k) this
  simp only [Nat.testBit_or, Nat.testBit_two_pow, b] at t
  simp at t
theorem come_here {m : Nat} {ps : List Pr} {bs : List Nat} (N : Needs m ps bs) (bd : In m ps) {L1 L2 : List Nat} {c : Nat} (e : closedL bs = L1 ++ c :: L2) : come m ps bs L1 c = arr m ps c := by
  have up : (closedL bs).Pairwise (· < ·) := List.Pairwise.filter _ List.pairwise_lt_range
  rw [e] at up
  have up := List.pairwise_append.mp up
  unfold come
  by_cases c0 : c = 0
  · subst c0
    rw [if_pos rfl, arr_zero bd]
    have : (L1.map fun c => arr m ps c * hh bs c 0).sum = 0 := by
      refine sum_zero fun x mx => ?_
      obtain ⟨d, _, rfl⟩ := List.mem_map.mp mx
      rw [hh_less (Nat.zero_le _), Nat.mul_zero]
    omega
  · rw [if_neg c0, arr_step N bd c0, e, List.map_append, List.sum_append, List.map_cons, List.sum_cons]
    have z : (L2.map fun d => arr m ps d * hh bs d c).sum = 0 := by
      refine sum_zero fun x mx => ?_
      obtain ⟨d, md, rfl⟩ := List.mem_map.mp mx
      have := (List.pairwise_cons.mp up.2.1).1 d md
      rw [hh_less (by omega), Nat.mul_zero]
    rw [z, hh_less (Nat.le_refl c)]
    omega
theorem come_all {m : Nat} {ps : List Pr} {bs : List Nat} (N : Needs m ps bs) (bd : In m ps) (g : Nat) : come m ps bs (closedL bs) g = arr m ps g := by
  unfold come
  by_cases g0 : g = 0
  · subst g0
    rw [if_pos rfl, arr_zero bd]
    have : ((closedL bs).map fun c => arr m ps c * hh bs c 0).sum = 0 := by
      refine sum_zero fun x mx => ?_
      obtain ⟨d, _, rfl⟩ := List.mem_map.mp mx
      rw [hh_less (Nat.zero_le _), Nat.mul_zero]
    omega
  · rw [if_neg g0, arr_step N bd g0]
    omega
/-- within one lot, when some of its comers are done -/
def hhP (P : List Nat) (c g : Nat) : Nat := (P.filter fun k => decide (c ||| 2 ^ k = g)).length
theorem come_put {m : Nat} {ps : List Pr} {bs : List Nat} (L : List Nat) (c g : Nat) : come m ps bs (L ++ [c]) g = come m ps bs L g + arr m ps c * hhP (comersL bs c) c g := by
  unfold come hhP hh
  rw [List.map_append, List.sum_append, List.map_singleton, List.sum_singleton]
  omega
theorem hhP_put (P : List Nat) (k c g : Nat) : hhP (P ++ [k]) c g = hhP P c g + (if c ||| 2 ^ k = g then 1 else 0) := by
  unfold hhP
  rw [List.filter_append, List.length_append]
  by_cases e : c ||| 2 ^ k = g
  · have f : [k].filter (fun k => decide (c ||| 2 ^ k = g)) = [k] := by
      rw [List.filter_cons_of_pos (by exact decide_eq_true e)]
      rfl
    rw [f, if_pos e]
    rfl
  · have f : [k].filter (fun k => decide (c ||| 2 ^ k = g)) = [] := by
      rw [List.filter_cons_of_neg (by rw [decide_eq_true_eq]; exact e)]
      rfl
    rw [f, if_neg e]
    rfl
theorem rowsN_le {m : Nat} {ps : List Pr} (m8 : m ≤ 8) (t g : Nat) : rowsN m ps t g ≤ 40320 := Nat.le_trans (List.length_filter_le _ _) (level_le m8 t)
theorem arr_le {m : Nat} {ps : List Pr} (m8 : m ≤ 8) (bd : In m ps) (g : Nat) : arr m ps g ≤ 40320 := by
  by_cases h : (bitsOf m g).length ≤ m
  · rw [arr_rows bd h rfl]
    exact rowsN_le m8 _ _
  · exact absurd (Nat.le_trans (List.length_filter_le _ _) (by rw [List.length_range]; exact Nat.le_refl _)) h
end Ev

namespace Ev
/-! ### fractions, in lowest terms -/
def frN (a b : Nat) : Int × Int := (((a / Nat.gcd a b : Nat) : Int), ((b / Nat.gcd a b : Nat) : Int))
theorem low_eq {a b c d : Nat} (hb : 0 < b) (hd : 0 < d) : (a / Nat.gcd a b = c / Nat.gcd c d ∧ b / Nat.gcd a b = d / Nat.gcd c d) ↔ a * d = c * b := by
  have g1 : 0 < Nat.gcd a b := Nat.gcd_pos_of_pos_right _ hb
  have g2 : 0 < Nat.gcd c d := Nat.gcd_pos_of_pos_right _ hd
  have ea : a / Nat.gcd a b * Nat.gcd a b = a := Nat.div_mul_cancel (Nat.gcd_dvd_left _ _)
  have eb : b / Nat.gcd a b * Nat.gcd a b = b := Nat.div_mul_cancel (Nat.gcd_dvd_right _ _)
  have ec : c / Nat.gcd c d * Nat.gcd c d = c := Nat.div_mul_cancel (Nat.gcd_dvd_left _ _)
  have ed : d / Nat.gcd c d * Nat.gcd c d = d := Nat.div_mul_cancel (Nat.gcd_dvd_right _ _)
  have co1 : Nat.Coprime (a / Nat.gcd a b) (b / Nat.gcd a b) := Nat.coprime_div_gcd_div_gcd g1
  have co2 : Nat.Coprime (c / Nat.gcd c d) (d / Nat.gcd c d) := Nat.coprime_div_gcd_div_gcd g2
  generalize Nat.gcd a b = g at *
  generalize Nat.gcd c d = h at *
  generalize a / g = a' at *
  generalize b / g = b' at *
  generalize c / h = c' at *
  generalize d / h = d' at *
  subst ea
  subst eb
  subst ec
  subst ed
  constructor
  · rintro ⟨rfl, rfl⟩
    simp only [Nat.mul_assoc, Nat.mul_left_comm, Nat.mul_comm]
  · intro e
    have e : a' * d' = c' * b' := by
      have : a' * d' * (g * h) = c' * b' * (g * h) := by
        calc a' * d' * (g * h) = a' * g * (d' * h) := by simp only [Nat.mul_assoc, Nat.mul_left_comm, Nat.mul_comm]
          _ = c' * h * (b' * g) := e
          _ = c' * b' * (g * h) := by simp only [Nat.mul_assoc, Nat.mul_left_comm, Nat.mul_comm]
      exact Nat.eq_of_mul_eq_mul_right (Nat.mul_pos g1 g2) this
    have b0 : 0 < b' := Nat.pos_of_mul_pos_right hb
    have d1 : b' ∣ d' := by
      have : b' ∣ a' * d' := ⟨c', by rw [e, Nat.mul_comm]⟩
      exact co1.symm.dvd_of_dvd_mul_left this
    have d2 : d' ∣ b' := by
      have : d' ∣ c' * b' := ⟨a', by rw [← e, Nat.mul_comm]⟩
      exact co2.symm.dvd_of_dvd_mul_left this
    have ebd : b' = d' := Nat.dvd_antisymm d1 d2
    subst ebd
    exact ⟨Nat.eq_of_mul_eq_mul_right b0 e, rfl⟩
theorem frN_eq {a b c d : Nat} (hb : 0 < b) (hd : 0 < d) : frN a b = frN c d ↔ a * d = c * b := by
  rw [← low_eq hb hd]
  unfold frN
  rw [Prod.mk.injEq]
  omega
theorem frN_one {a b : Nat} (hb : 0 < b) : frN a b = (1, 1) ↔ a = b := by
  have e : frN 1 1 = (1, 1) := by decide
  rw [← e, frN_eq hb (by decide), Nat.mul_one, Nat.one_mul]
theorem frN_nil {a b : Nat} (hb : 0 < b) : frN a b = (0, 1) ↔ a = 0 := by
  have e : frN 0 1 = (0, 1) := by decide
  rw [← e, frN_eq hb (by decide), Nat.mul_one, Nat.zero_mul]
/-- its parts -/
theorem frN_parts {a b : Nat} (hb : 0 < b) : ∃ n d : Nat, frN a b = ((n : Int), (d : Int)) ∧ 0 < d ∧ d ≤ b ∧ n ≤ a ∧ n * b = a * d := by
  have g1 : 0 < Nat.gcd a b := Nat.gcd_pos_of_pos_right _ hb
  have ea : a / Nat.gcd a b * Nat.gcd a b = a := Nat.div_mul_cancel (Nat.gcd_dvd_left _ _)
  have eb : b / Nat.gcd a b * Nat.gcd a b = b := Nat.div_mul_cancel (Nat.gcd_dvd_right _ _)
  refine ⟨_, _, rfl, Nat.div_pos (Nat.gcd_le_right _ hb) g1, Nat.div_le_self _ _, Nat.div_le_self _ _, ?_⟩
  generalize Nat.gcd a b = g at *
  generalize a / g = a' at *
  generalize b / g = b' at *
  subst ea
  subst eb
  simp only [Nat.mul_assoc, Nat.mul_left_comm, Nat.mul_comm]
/-- two with bottoms b and d, of fractions of one bottom -/
theorem frN_plus {a b c n1 d1 n2 d2 : Nat} (hb : 0 < b) (h1 : 0 < d1) (h2 : 0 < d2) (e1 : n1 * b = a * d1) (e2 : n2 * b = c * d2) : frN (n1 * d2 + n2 * d1) (d1 * d2) = frN (a + c) b := by
  rw [frN_eq (Nat.mul_pos h1 h2) hb, Nat.add_mul, Nat.add_mul]
  have x1 : n1 * d2 * b = a * (d1 * d2) := by
    calc n1 * d2 * b = n1 * b * d2 := by simp only [Nat.mul_assoc, Nat.mul_left_comm, Nat.mul_comm]
      _ = a * (d1 * d2) := by rw [e1, Nat.mul_assoc]
  have x2 : n2 * d1 * b = c * (d1 * d2) := by
    calc n2 * d1 * b = n2 * b * d1 := by simp only [Nat.mul_assoc, Nat.mul_left_comm, Nat.mul_comm]
      _ = c * (d1 * d2) := by rw [e2]; simp only [Nat.mul_assoc, Nat.mul_left_comm, Nat.mul_comm]
  rw [x1, x2]
theorem frN_times {a b c e n1 d1 n2 d2 : Nat} (hb : 0 < b) (he : 0 < e) (h1 : 0 < d1) (h2 : 0 < d2) (e1 : n1 * b = a * d1) (e2 : n2 * e = c * d2) : frN (n1 * n2) (d1 * d2) = frN (a * c) (b * e) := by
  rw [frN_eq (Nat.mul_pos h1 h2) (Nat.mul_pos hb he)]
  calc n1 * n2 * (b * e) = n1 * b * (n2 * e) := by simp only [Nat.mul_assoc, Nat.mul_left_comm, Nat.mul_comm]
    _ = a * d1 * (c * d2) := by rw [e1, e2]
    _ = a * c * (d1 * d2) := by simp only [Nat.mul_assoc, Nat.mul_left_comm, Nat.mul_comm]
/-- Euclid's turns, counted -/
structure Euc (a b i u v : Nat) : Prop where
  g : Nat.gcd u v = Nat.gcd a b
  l : v < u
  p : u * v * 2 ^ i ≤ a * b
theorem euc_first {a b : Nat} (hb : 0 < b) : Euc a b 0 b (a % b) := by
  refine ⟨?_, Nat.mod_lt _ hb, ?_⟩
  · rw [Nat.gcd_comm b, ← Nat.gcd_rec, Nat.gcd_comm]
  · rw [Nat.pow_zero, Nat.mul_one, Nat.mul_comm a b]
    exact Nat.mul_le_mul_left _ (Nat.mod_le _ _)
theorem euc_next {a b i u v : Nat} (h : Euc a b i u v) (hv : 0 < v) : Euc a b (i + 1) v (u % v) := by
  refine ⟨?_, Nat.mod_lt _ hv, ?_⟩
  · rw [Nat.gcd_comm v, ← Nat.gcd_rec, Nat.gcd_comm]
    exact h.g
  · have q : v + u % v ≤ u := by
      have := Nat.div_add_mod u v
      have d : 1 ≤ u / v := Nat.div_pos (Nat.le_of_lt h.l) hv
      have m : v * 1 ≤ v * (u / v) := Nat.mul_le_mul_left _ d
      omega
    have l := Nat.mod_lt u hv
    have two : v * (u % v) * 2 ≤ u * v := by
      calc v * (u % v) * 2 = v * (u % v + u % v) := by rw [Nat.mul_assoc, Nat.mul_two]
        _ ≤ v * u := Nat.mul_le_mul_left _ (by omega)
        _ = u * v := Nat.mul_comm _ _
    calc v * (u % v) * 2 ^ (i + 1) = v * (u % v) * 2 * 2 ^ i := by rw [Nat.pow_succ, Nat.mul_comm (2 ^ i) 2, Nat.mul_assoc (v * (u % v))]
      _ ≤ u * v * 2 ^ i := Nat.mul_le_mul_right _ two
      _ ≤ a * b := h.p
theorem euc_stay {a b i u v : Nat} (h : Euc a b i u v) (hv : v = 0) : Euc a b (i + 1) u v := by
  subst hv
  exact ⟨h.g, h.l, by rw [Nat.mul_zero, Nat.zero_mul]; exact Nat.zero_le _⟩
theorem euc_end {a b i u v : Nat} (h : Euc a b i u v) (le : a * b < 2 ^ i) : u = Nat.gcd a b ∧ v = 0 := by
  have z : v = 0 := by
    by_cases e : v = 0
    · exact e
    · exfalso
      have h1 : 1 ≤ u * v := Nat.mul_pos (Nat.lt_of_le_of_lt (Nat.zero_le _) h.l) (Nat.pos_of_ne_zero e)
      have h2 : 1 * 2 ^ i ≤ u * v * 2 ^ i := Nat.mul_le_mul_right _ h1
      have := h.p
      omega
  subst z
  have := h.g
  rw [Nat.gcd_zero_right] at this
  exact ⟨this, rfl⟩
end Ev

namespace Ev
open PySem L2
open C8 (pss_cut tCut InsC)
section
variable {P : Program} {w : World} {K : PySem.W.Frag} {mg : Str → Option Value} {base : Heap}
def sp_frac (K : PySem.W.Frag) : Sp := fun vs H Q _ => ∃ a b : Nat, vs = [.int (a : Int), .int (b : Int)] ∧ 1 ≤ b ∧ b < 1073741824 ∧
  ∀ H' z, Same H H' → H z = none → H' z = some (.tup [.int (frN a b).1, .int (frN a b).2]) → Q (.ref z) H'
abbrev s_frac : Stmt := topS 5 -- @fraction
abbrev n_frac : List Str := ["top", "bottom", "shared"]
theorem sc_frac : FnScope n_frac ["top", "bottom"] (defScope s_frac) := ⟨rfl, rfl, rfl, by decide +kernel, rfl, by decide +kernel, by decide +kernel⟩
theorem ok_frac {f : Addr} {fd : FuncData} (F : Fun K "fraction" "fraction" s_frac f fd) (gG : mg "gcd" = some (.builtin "math.gcd")) : FnOk P w K mg base CX0 1 f fd ["top", "bottom"] (sp_frac K) := by
  refine F.ok sc_frac (fun vs H Q E h => ?_) (fun cdv A outer s H vs Q E hr h => ?_)
  · obtain ⟨a, b, rfl, _⟩ := h
    rfl
  · obtain ⟨a, b, rfl, b1, b2, q⟩ := h
    refine ⟨_, pss_cons (ps_set (i := 2) sc_frac.nd rfl (Or.inl rfl) (pe_callBfun cr_gcd (by rfl) gG (pa_cons (pv 0) (pa_cons (pv 1) pa_nil))))
      (pss_one (ps_ret (pe_tup (pa_cons (pe_op op_fdivNN (pv 0) (pv 2)) (pa_cons (pe_op op_fdivNN (pv 1) (pv 2)) pa_nil))))), ?_⟩
    have g1 : 1 ≤ Nat.gcd a b := Nat.gcd_pos_of_pos_right _ b1
    have g2 : Nat.gcd a b ≤ b := Nat.gcd_le_right _ b1
    refine ⟨_, rfl, _, rfl, _, _, rfl, ?_⟩
    rw [Int.natAbs_natCast, Int.natAbs_natCast]
    refine ⟨_, rfl, _, rfl, a, Nat.gcd a b, rfl, rfl, ⟨g1, by omega⟩, _, rfl, _, rfl, b, Nat.gcd a b, rfl, rfl, ⟨g1, by omega⟩, (by show 2 ≤ sizeLine; decide), fun z nz => ?_⟩
    exact q _ z (same_new nz) nz upd_same
/-! ### _arrivals -/
def sp_arr (K : PySem.W.Frag) : Sp := fun vs H Q _ => ∃ (d : Addr) (m : Nat) (ps : List Pr) (bs : List Nat), vs = [.ref d] ∧ H d = some (.lst (nv bs)) ∧ m ≤ 8 ∧ Needs m ps bs ∧ In m ps ∧
  ∀ H' e, Same H H' → H e = none → H' e = some (.dK (tab (closedL bs) (arr m ps))) → Q (.ref e) H'
abbrev s_arr : Stmt := topS 32 -- @_arrivals
abbrev n_arr : List Str := ["needs", "closed", "gone", "ways", "name"]
theorem sc_arr : FnScope n_arr ["needs"] (defScope s_arr) := ⟨rfl, rfl, rfl, by decide +kernel, rfl, by decide +kernel, by decide +kernel⟩
theorem ok_arr {f f1 f2 : Addr} {fd fd1 fd2 : FuncData} (F : Fun K "_arrivals" "_arrivals" s_arr f fd) (D1 : Df K mg "closed_bits" s_closedB ["needs"] f1 fd1) (G1 : FnOk P w K mg base CX0 3 f1 fd1 ["needs"] (sp_closedB K))
    (D2 : Df K mg "comers" s_comers ["needs", "gone"] f2 fd2) (G2 : FnOk P w K mg base CX0 1 f2 fd2 ["needs", "gone"] (sp_comers K)) (B : Bl mg) : FnOk P w K mg base CX0 4 f fd ["needs"] (sp_arr K) := by
  refine F.ok sc_arr (fun vs H Q E h => ?_) (fun cdv A outer s H vs Q E hr h => ?_)
  · obtain ⟨d, m, ps, bs, rfl, _⟩ := h
    rfl
  · obtain ⟨d, m, ps, bs, rfl, hd, m8, N, bd, q⟩ := h
    have hr1 : Room 1 _ := hr.mono (by decide)
    have hu1 : (A.deeper (PyProof.Rows.envOfC (Str.ofString "_arrivals") (defScope s_arr) s.heap.objs.size f cdv)).units + 1 < cLine := by
      have := hr.units
      omega
    refine ⟨_, pss_cons (ps_set (i := 1) sc_arr.nd rfl (Or.inl rfl) (pe_call G1 hr rfl D1.g D1.F.kp D1.b .nil pass0 (pa_cons (pv 0) pa_nil)))
      (pss_cons (ps_setDc (i := 3) (own := [("gone", 2)]) (g := (gName 2)) (tt := tYes) (tk := tVar 2) (tv := tC (.int 0)) (by rfl) sc_arr.nd rfl rfl (sw_trueD rfl rfl rfl (by decide +kernel)) (pi_list (pv 1)) (blkOk_by (N := n_arr) (sc := defScope s_arr) (by decide +kernel)) (fun _ _ _ _ _ => by exact pg_name (i := 2) sc_arr.nd rfl (Or.inl rfl)) (fun _ _ _ _ _ => by exact pts_nil) (fun _ _ _ _ _ => by exact pv 2) (fun _ _ _ _ _ => by exact pe_int))
      (pss_cons (ps_dput hu1 (pv 3) pe_int pe_int (by rfl))
      (pss_cut (ps_for PassesOwn.never rfl (pi_list (pv 1)) (pg_name (i := 2) sc_arr.nd rfl (Or.inl rfl))
        (pss_one (ps_for PassesOwn.never rfl (pi_list (pe_call G2 hr1 rfl D2.g D2.F.kp D2.b .nil pass0 (pa_cons (pv 0) (pa_cons (pv 2) pa_nil)))) (pg_name (i := 4) sc_arr.nd rfl (Or.inl rfl))
          (pss_one (ps_daug hu1 (pv 3) (pe_op op_orNN (pv 2) (pe_op op_oneShl pe_int (pv 4))) (pe_dget hu1 (pv 3) (pv 2) (fun _ _ => rfl)) iop_add (fun _ _ _ => rfl))))))
      (pss_one (ps_ret (pv 3)))))), ?_⟩
    have l8 : bs.length ≤ 8 := N.len.symm ▸ m8
    have lcl : (closedL bs).length ≤ 256 := by
      have h1 := flt_range_len (p := closedB bs) (i := 2 ^ bs.length)
      have h2 : 2 ^ bs.length ≤ 256 := Nat.pow_le_pow_right (by decide) l8 (n := 2)
      exact Nat.le_trans h1 h2
    refine ⟨_, rfl, d, bs, rfl, SqL.of hd, l8, fun H1 cl sm1 ncl hcl => ?_⟩
    have hd1 := sm1 _ _ hd
    -- the zeros
    refine ⟨_, rfl, cl, rfl, ⟨_, SqL.of hcl⟩, fun wd nwd => ?_⟩
    have wcl : cl ≠ wd := ne_of_none hcl nwd
    have wdd : d ≠ wd := ne_of_none hd1 nwd
    have nwd0 : H wd = none := none_of sm1 nwd
    refine dc_list (K := K) (a := cl) (xs := nv (closedL bs)) (fun i H' => Same H1 H' ∧ H' wd = some (.dK (tab ((closedL bs).take i) fun _ => 0))) ?_ ?_ ?_ ?_
    · exact ⟨same_new nwd, upd_same⟩
    · rintro i H' _ ⟨sm, _⟩
      exact SqL.of (sm _ _ hcl)
    · rintro i y H' hy ⟨sm, hw⟩
      obtain ⟨c, gc, rfl⟩ := nv_inv hy
      have lt := (List.getElem?_eq_some_iff.mp gc).1
      refine ⟨rfl, _, rfl, _, (.inl ((c : Nat) : Int) : Key), rfl, hw, ?_, same_upd sm nwd, ?_⟩
      · rw [tab_length, List.length_take]
        exact small300 (by omega)
      · rw [upd_same, take_snoc gc]
        have nc : c ∉ (closedL bs).take i := fun mc => by
          obtain ⟨j, gj⟩ := List.getElem?_of_mem mc
          have lj := (List.getElem?_eq_some_iff.mp gj).1
          rw [List.length_take] at lj
          rw [List.getElem?_take, if_pos (by omega)] at gj
          have := (List.getElem_inj (closed_nodup bs)).mp ((List.getElem?_eq_some_iff.mp gj).2.trans (List.getElem?_eq_some_iff.mp gc).2.symm)
          omega
        rw [show (V.int 0) = V.int ((0 : Nat) : Int) from rfl, tab_new (f := fun _ => 0) nc rfl]
    rintro H2 ⟨sm2, hw2⟩
    rw [nv_length, List.take_length] at hw2
    have hcl2 := sm2 _ _ hcl
    have m0 : 0 ∈ closedL bs := by
      unfold closedL
      rw [List.mem_filter, List.mem_range]
      refine ⟨Nat.two_pow_pos _, (closedB_iff N bd).mpr fun a c _ h => ?_⟩
      rw [Nat.zero_testBit] at h
      cases h
    -- ways[0] = 1
    refine ⟨_, rfl, wd, _, rfl, .inl ⟨_, (.inl ((0 : Nat) : Int) : Key), hw2, rfl, by rw [tab_length]; exact small300 (by omega), rfl⟩, ?_⟩
    have sm12 := sm1.trans sm2
    have hd2 := sm12 _ _ hd
    have e0 : putK (tab (closedL bs) fun _ => 0) (.inl ((0 : Nat) : Int) : Key) (V.int 1) = tab (closedL bs) (come m ps bs []) := by
      rw [show (V.int 1) = V.int ((1 : Nat) : Int) from rfl, tab_put m0]
      rfl
    rw [e0]
    have sm3 : Same H (upd H2 wd (.dK (tab (closedL bs) (come m ps bs [])))) := same_upd sm12 nwd0
    have hw3 : (upd H2 wd (.dK (tab (closedL bs) (come m ps bs [])))) wd = some (.dK (tab (closedL bs) (come m ps bs []))) := upd_same
    have hcl3 : (upd H2 wd (.dK (tab (closedL bs) (come m ps bs [])))) cl = some (.lst (nv (closedL bs))) := by
      rw [upd_ne wcl]
      exact hcl2
    generalize upd H2 wd (.dK (tab (closedL bs) (come m ps bs []))) = H3 at sm3 hw3 hcl3 ⊢
    clear e0 hw2 hcl2 hd2 sm12 sm2 hd1
    -- for gone in closed
    refine ⟨fun σ' H' => ∃ v2 v4 : Option V, σ' = [some (.ref d), some (.ref cl), v2, some (.ref wd), v4] ∧ Same H H' ∧ H' wd = some (.dK (tab (closedL bs) (arr m ps))), ?_, ?_⟩
    · refine ⟨_, rfl, cl, rfl, ⟨_, SqL.of hcl3⟩, for_list (K := K) (a := cl) (xs := nv (closedL bs)) (fun i σ' H' => ∃ v2 v4 : Option V, σ' = [some (.ref d), some (.ref cl), v2, some (.ref wd), v4] ∧ Same H H' ∧ H' cl = some (.lst (nv (closedL bs))) ∧ H' wd = some (.dK (tab (closedL bs) (come m ps bs ((closedL bs).take i))))) ?_ ?_ ?_ ?_⟩
      · exact ⟨none, none, rfl, sm3, hcl3, hw3⟩
      · rintro i σ' H' _ ⟨_, _, _, _, h, _⟩
        exact SqL.of h
      · rintro i y σ' H4 hy ⟨v2, v4, rfl, sm4, hcl4, hw4⟩
        obtain ⟨c, gc, rfl⟩ := nv_inv hy
        have mc : c ∈ closedL bs := List.mem_of_getElem? gc
        have cc : c < 2 ^ bs.length ∧ closedB bs c = true := by
          unfold closedL at mc
          obtain ⟨h1, h2⟩ := List.mem_filter.mp mc
          exact ⟨List.mem_range.mp h1, h2⟩
        have split : closedL bs = (closedL bs).take i ++ c :: (closedL bs).drop (i + 1) := by
          obtain ⟨lt, eq⟩ := List.getElem?_eq_some_iff.mp gc
          rw [← eq, ← List.drop_eq_getElem_cons lt, List.take_append_drop]
        have here := come_here N bd split
        refine ⟨_, rfl, _, rfl, d, c, bs, rfl, SqL.of (sm4 _ _ hd), l8, fun H5 g sm5 ng hg => ⟨g, rfl, ⟨_, SqL.of hg⟩, ?_⟩⟩
        have gw : g ≠ wd := fun e => by
          rw [e, hw4] at ng
          cases ng
        refine for_list (K := K) (a := g) (xs := nv (comersL bs c)) (fun j σ' H' => ∃ v4 : Option V, σ' = [some (.ref d), some (.ref cl), some (.int (c : Int)), some (.ref wd), v4] ∧ Same H H' ∧ H' cl = some (.lst (nv (closedL bs))) ∧ H' g = some (.lst (nv (comersL bs c))) ∧ H' wd = some (.dK (tab (closedL bs) fun x => come m ps bs ((closedL bs).take i) x + arr m ps c * hhP ((comersL bs c).take j) c x))) ?_ ?_ ?_ ?_
        · refine ⟨v4, rfl, sm4.trans sm5, sm5 _ _ hcl4, hg, ?_⟩
          rw [sm5 _ _ hw4]
          refine congrArg (fun z => some (HO.dK z)) (tab_congr fun x _ => ?_)
          show _ = _ + _ * 0
          rw [Nat.mul_zero, Nat.add_zero]
        · rintro j σ' H' _ ⟨_, _, _, _, h, _⟩
          exact SqL.of h
        · rintro j y σ' H6 hj ⟨v4, rfl, sm6, hcl6, hg6, hw6⟩
          obtain ⟨k, gk, rfl⟩ := nv_inv hj
          have mk := List.mem_of_getElem? gk
          have mko := mem_comers.mp mk
          have lk : k < bs.length := mko.1
          have mg' : c ||| 2 ^ k ∈ closedL bs := by
            unfold closedL
            rw [List.mem_filter, List.mem_range]
            exact ⟨put_lt cc.1 lk, closed_put N bd cc.2 mk⟩
          have self0 : hhP ((comersL bs c).take j) c c = 0 := by
            unfold hhP
            rw [List.length_eq_zero_iff, List.filter_eq_nil_iff]
            intro k' mk' e
            have e := of_decide_eq_true e
            have b := (mem_comers.mp (List.mem_of_mem_take mk')).2.1
            have t := congrArg (Nat.testBit · k') e
            simp only [Nat.testBit_or, Nat.testBit_two_pow, b] at t
            simp at t
          have g1 : DGet H6 wd (.int ((c ||| 2 ^ k : Nat) : Int)) (some (V.int ((come m ps bs ((closedL bs).take i) (c ||| 2 ^ k) + arr m ps c * hhP ((comersL bs c).take j) c (c ||| 2 ^ k) : Nat) : Int))) := by
            rw [← tab_val (f := fun x => come m ps bs ((closedL bs).take i) x + arr m ps c * hhP ((comersL bs c).take j) c x) mg']
            exact DGet.k (k := (.inl ((c ||| 2 ^ k : Nat) : Int) : Key)) hw6
          have g2 : DGet H6 wd (.int (c : Int)) (some (V.int ((arr m ps c : Nat) : Int))) := by
            have e : arr m ps c = come m ps bs ((closedL bs).take i) c + arr m ps c * hhP ((comersL bs c).take j) c c := by
              rw [self0, here, Nat.mul_zero, Nat.add_zero]
            rw [e, ← tab_val (f := fun x => come m ps bs ((closedL bs).take i) x + arr m ps c * hhP ((comersL bs c).take j) c x) mc]
            exact DGet.k (k := (.inl (c : Int) : Key)) hw6
          have e2 : ((2 : Int) ^ k) = ((2 ^ k : Nat) : Int) := by
            push_cast
            rfl
          refine ⟨_, rfl, _, rfl, _, rfl, k, rfl, rfl, by omega, c, 2 ^ k, rfl, by rw [e2], wd, _, rfl, g1, ?_⟩
          refine ⟨_, rfl, _, rfl, wd, _, rfl, g2, _, _, rfl, rfl, _, .inl ⟨_, (.inl ((c ||| 2 ^ k : Nat) : Int) : Key), hw6, rfl, by rw [tab_length]; exact small300 (by omega), rfl⟩, ?_⟩
          refine ⟨some (.int (k : Int)), rfl, same_upd sm6 nwd0, by rw [upd_ne wcl]; exact hcl6, by rw [upd_ne gw]; exact hg6, ?_⟩
          have ep : ∀ u v : Nat, V.int ((u : Int) + (v : Int)) = V.int ((u + v : Nat) : Int) := fun u v => by
            push_cast
            rfl
          dsimp only
          rw [upd_same, ep, tab_put mg']
          refine congrArg (fun z => some (HO.dK z)) (tab_congr fun x _ => ?_)
          rw [take_snoc gk, hhP_put]
          by_cases ex : x = c ||| 2 ^ k
          · subst ex
            rw [if_pos rfl, if_pos rfl, Nat.mul_add, Nat.mul_one, Nat.add_assoc]
          · rw [if_neg ex, if_neg (fun e => ex e.symm), Nat.add_zero]
        · rintro σ' H6 ⟨v4, rfl, sm6, hcl6, hg6, hw6⟩
          rw [nv_length, List.take_length] at hw6
          refine ⟨_, v4, rfl, sm6, hcl6, ?_⟩
          rw [hw6, take_snoc gc]
          exact congrArg (fun z => some (HO.dK z)) (tab_congr fun x _ => (come_put _ c x).symm)
      · rintro σ' H4 ⟨v2, v4, rfl, sm4, _, hw4⟩
        rw [nv_length, List.take_length] at hw4
        refine ⟨v2, v4, rfl, sm4, ?_⟩
        rw [hw4]
        exact congrArg (fun z => some (HO.dK z)) (tab_congr fun x _ => come_all N bd x)
    rintro σ' H4 ⟨v2, v4, rfl, sm4, hw4⟩
    exact ⟨_, rfl, q H4 wd sm4 nwd0 hw4⟩
end
end Ev

namespace Ev
open PySem PySem.Spec PyProof.Rows L2
/-! ### rows of tuples of ints as data -/
def rowsD (L : List (List Int)) : PyData := .list (L.map intD)
theorem eqvAll_rows : ∀ L M : List (List Int), PyData.eqvAll (L.map intD) (M.map intD) = decide (L = M)
  | [], [] => rfl
  | [], _ :: _ => rfl
  | _ :: _, [] => rfl
  | x :: L, y :: M => by
    simp only [List.map_cons, PyData.eqvAll, eqv_intDG, eqvAll_rows L M]
    by_cases e : x = y
    · subst e
      by_cases e2 : L = M <;> simp [e2]
    · simp [e]
theorem eqv_rowsD (L M : List (List Int)) : PyData.eqv (rowsD L) (rowsD M) = decide (L = M) := by
  unfold rowsD
  simp only [PyData.eqv]
  exact eqvAll_rows L M
theorem depth_intD (l : List Int) : (intD l).depth = 1 := by
  show PyData.depthAll (l.map .int) + 1 = 1
  rw [(lay_ints l).2]
theorem lay_rows : ∀ L : List (List Int), PyData.canLayAll0 (L.map intD) = true ∧ PyData.depthAll (L.map intD) ≤ 1
  | [] => ⟨rfl, Nat.zero_le _⟩
  | x :: L => by
    obtain ⟨h1, h2⟩ := lay_rows L
    have c : (intD x).canLay0 = true := (lay_ints x).1
    have d := depth_intD x
    simp only [List.map_cons, PyData.canLayAll0, PyData.depthAll, h1, c, Bool.and_true]
    exact ⟨trivial, by omega⟩
theorem shaped_rowsD (L : List (List Int)) : SeqAt.shaped (rowsD L) = true := by
  obtain ⟨h1, h2⟩ := lay_rows L
  have c : (rowsD L).canLay0 = true := h1
  have e : (rowsD L).depth = PyData.depthAll (L.map intD) + 1 := rfl
  unfold SeqAt.shaped
  rw [c, Bool.true_and]
  exact decide_eq_true (by omega)
theorem dp_rows {K : PySem.W.Frag} {H : Hp} : ∀ {ks : Lp}, LpAt K H ks → DpAll K H (lvv ks) ((lvp ks).map intD)
  | [], _ => .nil
  | k :: ks, h => .cons (dp_intD (h k List.mem_cons_self)) (dp_rows fun j m => h j (List.mem_cons_of_mem _ m))
theorem dp_rowsD {K : PySem.W.Frag} {H : Hp} {z : Addr} {ks : Lp} (h : SqL K H z (lvv ks)) (a : LpAt K H ks) : Dp K H (.ref z) (rowsD (lvp ks)) := .lst h (dp_rows a)
theorem any_rows (l : List Int) : ∀ L : List (List Int), ((L.map intD).any fun y => PyData.eqv y (intD l)) = decide (l ∈ L)
  | [] => rfl
  | q :: L => by
    rw [List.map_cons, List.any_cons, any_rows l L, eqv_intDG]
    by_cases h1 : q = l
    · simp [h1]
    · by_cases h2 : l ∈ L
      · simp [h2]
      · have h3 : ¬ l = q := fun e => h1 e.symm
        simp [h1, h2, h3]
/-- l in rows, l not in rows -/
def rInR (K : PySem.W.Frag) (neg : Bool) : R2 := fun x y H Q => ∃ (b d : Addr) (l : List Int) (ks : Lp), x = .ref b ∧ y = .ref d ∧ SqT K H b (l.map V.int) ∧ SqL K H d (lvv ks) ∧ LpAt K H ks ∧
  Q (.bl (if neg then !decide (l ∈ lvp ks) else decide (l ∈ lvp ks))) H
section
variable {X : Cx}
theorem room_rows {A : Around} {L : List (List Int)} {l : List Int} (hu : A.units + 64 < cLine) : A.units + 1 + min (PyData.depthAll (L.map intD)) (intD l).depth < cLine := by
  have h1 := (lay_rows L).2
  have h2 : min (PyData.depthAll (L.map intD)) (intD l).depth ≤ PyData.depthAll (L.map intD) := Nat.min_le_left _ _
  omega
theorem op_inR (hu : X.A.units + 64 < cLine) : OpR X (compareOp .In) (rInR X.K false) := by
  intro pins s σ H x y v u Q I rx ry h
  obtain ⟨b, d, l, ks, rfl, rfl, hb, hl, hk, q⟩ := h
  obtain ⟨as, r1⟩ := Dp.reads I _ _ v (dp_intD hb) rx
  obtain ⟨bs, r2⟩ := Dp.reads I _ _ u (dp_rowsD hl hk) ry
  refine PySem.SeqAt.in_list_reads (xs := (lvp ks).map intD) r2 r1 (lay_rows _).1 (lay_ints l).1 (room_rows hu) ?_
  rw [any_rows]
  exact ⟨.bl _, H, I, rfl, q⟩
theorem op_notInR (hu : X.A.units + 64 < cLine) : OpR X (compareOp .NotIn) (rInR X.K true) := by
  intro pins s σ H x y v u Q I rx ry h
  obtain ⟨b, d, l, ks, rfl, rfl, hb, hl, hk, q⟩ := h
  obtain ⟨as, r1⟩ := Dp.reads I _ _ v (dp_intD hb) rx
  obtain ⟨bs, r2⟩ := Dp.reads I _ _ u (dp_rowsD hl hk) ry
  refine PySem.SeqAt.notIn_list_reads (xs := (lvp ks).map intD) r2 r1 (lay_rows _).1 (lay_ints l).1 (room_rows hu) ?_
  rw [any_rows]
  exact ⟨.bl _, H, I, rfl, q⟩
end
/-! ### an int in a tuple of ints -/
theorem inV_int (a : Int) : ∀ ls : List Int, inV (V.int a) (ls.map V.int) = decide (a ∈ ls)
  | [] => rfl
  | x :: ls => by
    have e : inV (V.int a) ((x :: ls).map V.int) = (eqV (V.int x) (V.int a) || inV (V.int a) (ls.map V.int)) := by
      first
        | rfl
        | (unfold inV; rfl)
    rw [e, inV_int a ls]
    by_cases h1 : x = a
    · subst h1
      simp [eqV]
    · have h3 : ¬ a = x := fun e => h1 e.symm
      by_cases h2 : a ∈ ls <;> simp [eqV, h1, h2, h3]
theorem flat_ints (ls : List Int) : (ls.map V.int).all flatV = true := by
  rw [List.all_map]
  exact List.all_eq_true.mpr fun _ _ => rfl
end Ev

namespace Ev
open PySem L2
open C8 (pss_cut tCut InsC)
/-! ### by places -/
def lenB (m p : Nat) (c : Nat) : Bool := decide ((bitsOf m c).length = p)
/-- when some lots are done -/
def numAt (m : Nat) (ps : List Pr) (bs : List Nat) (k : Nat) (L : List Nat) (p : Nat) : Nat := ((L.filter (lenB m p)).map fun c => arr m ps c * atB bs c k).sum
def numsL (m : Nat) (ps : List Pr) (bs : List Nat) (k : Nat) (L : List Nat) : List Nat := (List.range m).map (numAt m ps bs k L)
theorem numsL_len (m : Nat) (ps : List Pr) (bs : List Nat) (k : Nat) (L : List Nat) : (numsL m ps bs k L).length = m := by
  unfold numsL
  rw [List.length_map, List.length_range]
theorem numsL_get {m : Nat} {ps : List Pr} {bs : List Nat} {k p : Nat} {L : List Nat} (h : p < m) : (numsL m ps bs k L)[p]? = some (numAt m ps bs k L p) := by
  unfold numsL
  rw [List.getElem?_map, List.getElem?_range h]
  rfl
theorem numsL_nil (m : Nat) (ps : List Pr) (bs : List Nat) (k : Nat) : numsL m ps bs k [] = List.replicate m 0 := by
  refine List.eq_replicate_iff.mpr ⟨numsL_len m ps bs k [], fun b mb => ?_⟩
  obtain ⟨s, _, rfl⟩ := List.mem_map.mp mb
  rfl
theorem numAt_put (m : Nat) (ps : List Pr) (bs : List Nat) (k : Nat) (L : List Nat) (c p : Nat) : numAt m ps bs k (L ++ [c]) p = numAt m ps bs k L p + (if (bitsOf m c).length = p then arr m ps c * atB bs c k else 0) := by
  unfold numAt
  rw [List.filter_append, List.map_append, List.sum_append]
  by_cases e : (bitsOf m c).length = p
  · rw [List.filter_cons_of_pos (show lenB m p c = true from decide_eq_true e), if_pos e]
    rfl
  · rw [List.filter_cons_of_neg (show ¬ lenB m p c = true from fun q => e (of_decide_eq_true q)), if_neg e]
    rfl
theorem numsL_skip {m : Nat} {ps : List Pr} {bs : List Nat} {k : Nat} {L : List Nat} {c : Nat} (h : atB bs c k = 0) : numsL m ps bs k (L ++ [c]) = numsL m ps bs k L := by
  unfold numsL
  refine List.map_congr_left fun p _ => ?_
  rw [numAt_put, h, Nat.mul_zero]
  split <;> rfl
theorem numsL_put {m : Nat} {ps : List Pr} {bs : List Nat} {k : Nat} {L : List Nat} {c v : Nat} (h : (bitsOf m c).length < m) (e : v = numAt m ps bs k L (bitsOf m c).length + arr m ps c * atB bs c k) : (numsL m ps bs k L).set (bitsOf m c).length v = numsL m ps bs k (L ++ [c]) := by
  refine List.ext_getElem? fun p => ?_
  rw [List.getElem?_set, numsL_len]
  by_cases ep : (bitsOf m c).length = p
  · rw [if_pos ep, if_pos h, ← ep, numsL_get h, numAt_put, if_pos rfl, e]
  · rw [if_neg ep]
    by_cases hp : p < m
    · rw [numsL_get hp, numsL_get hp, numAt_put, if_neg ep, Nat.add_zero]
    · rw [List.getElem?_eq_none (by rw [numsL_len]; omega), List.getElem?_eq_none (by rw [numsL_len]; omega)]
theorem numAt_all {m : Nat} {ps : List Pr} {bs : List Nat} (N : Needs m ps bs) (bd : In m ps) (ok : UpsOk ps) {k p : Nat} (hp : p < m) : numAt m ps bs k (closedL bs) p = placeN m ps (k : Int) p := by
  rw [place_sum N bd ok hp]
  unfold numAt
  have := sum_flt (lenB m p) (fun c => rowsN m ps p c * atB bs c k) (closedL bs) fun c _ h => by
    rw [rowsN_len bd (of_decide_eq_false h), Nat.zero_mul]
  rw [this]
  congr 1
  refine List.map_congr_left fun c mc => ?_
  have e : (bitsOf m c).length = p := of_decide_eq_true (List.mem_filter.mp mc).2
  rw [arr_rows bd (by omega) e]
def placesN (m : Nat) (ps : List Pr) (k : Nat) : List Nat := (List.range m).map (placeN m ps (k : Int))
theorem numsL_all {m : Nat} {ps : List Pr} {bs : List Nat} (N : Needs m ps bs) (bd : In m ps) (ok : UpsOk ps) {k : Nat} : numsL m ps bs k (closedL bs) = placesN m ps k := List.map_congr_left fun p mp => numAt_all N bd ok (List.mem_range.mp mp)
theorem rep_flat (v : V) : ∀ n : Nat, (List.replicate n [v]).flatten = List.replicate n v
  | 0 => rfl
  | n + 1 => by
    rw [List.replicate_succ, List.flatten_cons, rep_flat v n, List.replicate_succ]
    rfl
theorem nv_ints (l : List Nat) : nv l = (l.map fun k : Nat => (k : Int)).map V.int := by
  unfold nv
  rw [List.map_map]
  rfl
theorem same_unlock {H HL H' : Hp} {d : Addr} {u o : HO} (hd : H d = some u) (e : HL = upd H d o) (s : Same HL H') : Same H (upd H' d u) := fun b v hb => by
  by_cases q : b = d
  · subst q
    rw [hd] at hb
    cases hb
    exact upd_same
  · rw [upd_ne q]
    refine s b v ?_
    rw [e, upd_ne q]
    exact hb
section
variable {P : Program} {w : World} {K : PySem.W.Frag} {mg : Str → Option Value} {base : Heap}
def sp_byPlace (K : PySem.W.Frag) (C : Addr) : Sp := fun vs H Q _ => ∃ (x : Addr) (m : Nat) (js : Kp) (k : Nat), vs = [.ref x, .int (k : Int)] ∧ WebAt K C H x m js ∧ m ≤ 8 ∧ In m (kp js) ∧ UpsOk (kp js) ∧ k < m ∧
  ∀ H' z, Same H H' → H z = none → H' z = some (.lst (nv (placesN m (kp js) k))) → Q (.ref z) H'
abbrev s_byPlace : Stmt := topS 31 -- @_orders_by_place
abbrev n_byPlace : List Str := ["web", "name", "needs", "ways_on", "ways_there", "numbers", "gone", "place"]
theorem sc_byPlace : FnScope n_byPlace ["web", "name"] (defScope s_byPlace) := ⟨rfl, rfl, rfl, by decide +kernel, rfl, by decide +kernel, by decide +kernel⟩
theorem ok_byPlace {f C fI fE f1 f2 f3 f4 f5 : Addr} {fd fd1 fd2 fd3 fd4 fd5 : FuncData} (F : Fun K "_orders_by_place" "_orders_by_place" s_byPlace f fd) (W : WebC K mg C fI fE)
    (D1 : Df K mg "ahead_bits" s_aheadB ["web"] f1 fd1) (G1 : FnOk P w K mg base CX0 1 f1 fd1 ["web"] (sp_aheadB K C)) (D2 : Df K mg "rests" s_rests ["needs"] f2 fd2) (G2 : FnOk P w K mg base CX0 5 f2 fd2 ["needs"] (sp_rests K))
    (D3 : Df K mg "_arrivals" s_arr ["needs"] f3 fd3) (G3 : FnOk P w K mg base CX0 4 f3 fd3 ["needs"] (sp_arr K)) (D4 : Df K mg "comers" s_comers ["needs", "gone"] f4 fd4) (G4 : FnOk P w K mg base CX0 1 f4 fd4 ["needs", "gone"] (sp_comers K))
    (D5 : Df K mg "lot_of" s_lotOf ["many", "bits"] f5 fd5) (B : Bl mg) : FnOk P w K mg base CX0 6 f fd ["web", "name"] (sp_byPlace K C) := by
  have G5 : FnOk P w K mg base CX0 1 f5 fd5 ["many", "bits"] (sp_lotOf K) := ok_lotOf D5.F B
  refine F.ok sc_byPlace (fun vs H Q E h => ?_) (fun cdv A outer s H vs Q E hr h => ?_)
  · obtain ⟨x, m, js, k, rfl, _⟩ := h
    rfl
  · obtain ⟨x, m, js, k, rfl, wa, m8, bd, ok, hk, q⟩ := h
    have hr1 : Room 1 _ := hr.mono (by decide)
    have hr4 : Room 4 _ := hr.mono (by decide)
    have hu1 : (A.deeper (PyProof.Rows.envOfC (Str.ofString "_orders_by_place") (defScope s_byPlace) s.heap.objs.size f cdv)).units + 1 < cLine := by
      have := hr.units
      omega
    refine ⟨_, pss_cons (ps_set (i := 2) sc_byPlace.nd rfl (Or.inl rfl) (pe_call G1 hr1 rfl D1.g D1.F.kp D1.b .nil pass0 (pa_cons (pv 0) pa_nil)))
      (pss_cons (ps_set (i := 3) sc_byPlace.nd rfl (Or.inl rfl) (pe_call G2 hr rfl D2.g D2.F.kp D2.b .nil pass0 (pa_cons (pv 2) pa_nil)))
      (pss_cons (ps_set (i := 4) sc_byPlace.nd rfl (Or.inl rfl) (pe_call G3 hr4 rfl D3.g D3.F.kp D3.b .nil pass0 (pa_cons (pv 2) pa_nil)))
      (pss_cons (ps_set (i := 5) sc_byPlace.nd rfl (Or.inl rfl) (pe_op op_rep (pe_lst (pa_cons (pe_int) pa_nil)) (pe_fld (pv 0) rfl)))
      (pss_cut (ps_lock (ps_for PassesOwn.never rfl (pi_keys (pv 4)) (pg_name (i := 6) sc_byPlace.nd rfl (Or.inl rfl))
        (pss_one (ps_if (pt_cmpR op_in_seq (pv 1) (pe_call G4 hr1 rfl D4.g D4.F.kp D4.b .nil pass0 (pa_cons (pv 2) (pa_cons (pv 6) pa_nil))) (by rfl))
          (pss_cons (ps_set (i := 7) sc_byPlace.nd rfl (Or.inl rfl) (pe_callB call_len_seq (by rfl) B.len (by decide +kernel) (pa_cons (pe_call G5 hr1 rfl D5.g D5.F.kp D5.b .nil pass0 (pa_cons (pe_fld (pv 0) rfl) (pa_cons (pv 6) pa_nil))) pa_nil)))
          (pss_one (ps_augS (pv 5) (pv 7) pget_list (pe_op op_mul (pe_dget hu1 (pv 4) (pv 6) (fun _ _ => rfl)) (pe_dget hu1 (pv 3) (pe_op op_orNN (pv 6) (pe_op op_oneShl pe_int (pv 1))) (fun _ _ => rfl))) iop_add set_list)))
          (pss_nil)))))
      (pss_one (ps_ret (pv 5))))))), ?_⟩
    obtain ⟨dx, z, hx, hz⟩ := wa.ob
    refine ⟨_, rfl, x, m, js, rfl, wa, m8, bd, fun H1 d bs sm1 nd hd N => ?_⟩
    have l8 : bs.length ≤ 8 := N.len.symm ▸ m8
    have lcl : (closedL bs).length ≤ 256 := by
      have h1 := flt_range_len (p := closedB bs) (i := 2 ^ bs.length)
      have h2 : 2 ^ bs.length ≤ 256 := Nat.pow_le_pow_right (by decide) l8 (n := 2)
      exact Nat.le_trans h1 h2
    refine ⟨_, rfl, d, m, kp js, bs, rfl, SqL.of hd, m8, N, bd, ok, fun H2 wo kvs sm2 nwo hwo val => ?_⟩
    have hd2 := sm2 _ _ hd
    refine ⟨_, rfl, d, m, kp js, bs, rfl, hd2, m8, N, bd, fun H3 wt sm3 nwt hwt => ?_⟩
    have hd3 := sm3 _ _ hd2
    have hwo3 := sm3 _ _ hwo
    have sm13 := sm1.trans (sm2.trans sm3)
    -- numbers
    refine ⟨(by show 1 ≤ sizeLine; decide), fun p0 np0 => ?_⟩
    have s0 := same_new (o := .lst [.int 0]) np0
    refine ⟨_, rfl, x, C, dx, _, _, rfl, (sm13.trans s0) _ _ hx, W.ins.cl, W.nM, webF_many _ _, p0, m, _, rfl, rfl, upd_same, by omega, by omega, ?_, fun nu nnu => ?_⟩
    · show 1 * (m : Int).toNat ≤ sizeLine
      rw [Int.toNat_natCast]
      exact Nat.le_of_lt (small64 (by omega))
    have e0 : (List.replicate (m : Int).toNat [V.int 0]).flatten = nv (numsL m (kp js) bs k []) := by
      rw [numsL_nil, Int.toNat_natCast, rep_flat]
      unfold nv
      rw [List.map_replicate]
      rfl
    rw [e0]
    have nnu3 : H3 nu = none := none_of s0 nnu
    have s4 : Same H3 (upd (upd H3 p0 (.lst [.int 0])) nu (.lst (nv (numsL m (kp js) bs k [])))) := same_upd s0 nnu3
    have hnu : (upd (upd H3 p0 (.lst [.int 0])) nu (.lst (nv (numsL m (kp js) bs k [])))) nu = some (.lst (nv (numsL m (kp js) bs k []))) := upd_same
    generalize upd (upd H3 p0 (.lst [.int 0])) nu (.lst (nv (numsL m (kp js) bs k []))) = H4 at s4 hnu ⊢
    have hwt4 := s4 _ _ hwt
    have hwo4 := s4 _ _ hwo3
    have hd4 := s4 _ _ hd3
    have sm14 := sm13.trans s4
    have hx4 := sm14 _ _ hx
    have wtnu : wt ≠ nu := fun e => by
      rw [← e, hwt] at nnu3
      cases nnu3
    have wtd : wt ≠ d := fun e => by
      rw [e, hd2] at nwt
      cases nwt
    have wtwo : wt ≠ wo := fun e => by
      rw [e, hwo] at nwt
      cases nwt
    have wtx : wt ≠ x := fun e => by
      rw [e, (sm1.trans sm2) _ _ hx] at nwt
      cases nwt
    have nnu0 : H nu = none := none_of sm13 nnu3
    clear e0 s0 np0 nnu
    -- for gone in ways_there
    refine ⟨fun σ' H' => ∃ v6 v7 : Option V, σ' = [some (.ref x), some (.int (k : Int)), some (.ref d), some (.ref wo), some (.ref wt), some (.ref nu), v6, v7] ∧ Same H H' ∧ H' nu = some (.lst (nv (placesN m (kp js) k))), ?_, ?_⟩
    · refine ⟨wt, .dK (tab (closedL bs) (arr m (kp js))), hwt4, trivial, fun od => ?_⟩
      refine ⟨_, rfl, wt, od, rfl, .inl ⟨tab (closedL bs) (arr m (kp js)), upd_same, ?_⟩⟩
      have hL : (upd H4 wt (.frz od (.dK (tab (closedL bs) (arr m (kp js)))))) wt = some (.frz od (.dK (tab (closedL bs) (arr m (kp js))))) := upd_same
      have eL : upd H4 wt (.frz od (.dK (tab (closedL bs) (arr m (kp js))))) = upd H4 wt (.frz od (.dK (tab (closedL bs) (arr m (kp js))))) := rfl
      have hnuL : (upd H4 wt (.frz od (.dK (tab (closedL bs) (arr m (kp js)))))) nu = some (.lst (nv (numsL m (kp js) bs k []))) := by
        rw [upd_ne wtnu.symm]
        exact hnu
      have hwoL : (upd H4 wt (.frz od (.dK (tab (closedL bs) (arr m (kp js)))))) wo = some (.dK kvs) := by
        rw [upd_ne wtwo.symm]
        exact hwo4
      have hdL : (upd H4 wt (.frz od (.dK (tab (closedL bs) (arr m (kp js)))))) d = some (.lst (nv bs)) := by
        rw [upd_ne wtd.symm]
        exact hd4
      have hxL : (upd H4 wt (.frz od (.dK (tab (closedL bs) (arr m (kp js)))))) x = some (.ins C dx (webF m z)) := by
        rw [upd_ne wtx.symm]
        exact hx4
      generalize hHL : upd H4 wt (.frz od (.dK (tab (closedL bs) (arr m (kp js))))) = HL at hL eL hnuL hwoL hdL hxL ⊢
      have dnu : d ≠ nu := fun e => by
        rw [← e, hd3] at nnu3
        cases nnu3
      have wonu : wo ≠ nu := fun e => by
        rw [← e, hwo3] at nnu3
        cases nnu3
      have xnu : x ≠ nu := fun e => by
        rw [← e, sm13 _ _ hx] at nnu3
        cases nnu3
      refine for_it (walk_keys (d := wt) (o := od) (kvs := tab (closedL bs) (arr m (kp js)))) (fun i σ' H' => ∃ v6 v7 : Option V, σ' = [some (.ref x), some (.int (k : Int)), some (.ref d), some (.ref wo), some (.ref wt), some (.ref nu), v6, v7] ∧ Keep nu HL H' ∧ H' nu = some (.lst (nv (numsL m (kp js) bs k ((closedL bs).take i))))) ?_ ?_ ?_ ?_
      · exact ⟨none, none, rfl, Keep.refl _ _, hnuL⟩
      · rintro i σ' H' _ ⟨_, _, _, kk, _⟩
        exact kk _ _ hL wtnu
      · rintro i y σ' H5 H5' hi ⟨v6, v7, rfl, k5, hn5⟩ ⟨rfl, ky, vy, gy, rfl⟩
        rw [tab_length] at hi
        have gc : (closedL bs)[i]? = some (closedL bs)[i] := List.getElem?_eq_getElem hi
        generalize (closedL bs)[i] = c at gc
        have ek : ky = (.inl ((c : Nat) : Int) : Key) := by
          unfold tab at gy
          rw [List.getElem?_map, gc] at gy
          exact (congrArg Prod.fst (Option.some.inj gy)).symm
        subst ek
        have mc : c ∈ closedL bs := List.mem_of_getElem? gc
        have cc : c < 2 ^ bs.length ∧ closedB bs c = true := by
          unfold closedL at mc
          obtain ⟨h1, h2⟩ := List.mem_filter.mp mc
          exact ⟨List.mem_range.mp h1, h2⟩
        have tk := take_snoc gc
        have hd5 := k5 _ _ hdL dnu
        refine ⟨_, rfl, _, rfl, _, rfl, d, c, bs, rfl, SqL.of hd5, l8, fun H6 g sm6 ng hg => ?_⟩
        rw [nv_ints] at hg
        refine ⟨g, _, rfl, .inl (SqL.of hg), rfl, flat_ints _, _, rfl, ?_⟩
        rw [if_neg Bool.false_ne_true, inV_int]
        have memk : ((k : Int) ∈ (comersL bs c).map fun k : Nat => (k : Int)) ↔ k ∈ comersL bs c := by
          rw [List.mem_map]
          exact ⟨fun ⟨j, mj, e⟩ => by
            have : j = k := by omega
            exact this ▸ mj, fun h => ⟨k, h, rfl⟩⟩
        by_cases hmk : k ∈ comersL bs c
        · rw [decide_eq_true (memk.mpr hmk)]
          have mko := mem_comers.mp hmk
          have lk : k < bs.length := mko.1
          have sm56 : Keep nu HL H6 := k5.trans (same_keep sm6)
          have hx6 := sm56 _ _ hxL xnu
          refine iteT ⟨_, rfl, x, C, dx, _, _, rfl, hx6, W.ins.cl, W.nM, webF_many _ _, _, rfl, m, c, rfl, m8, fun H7 lz sm7 nlz hlz => ⟨lz, _, rfl, .inr (sqT_of hlz), ?_⟩⟩
          have k7 : Keep nu HL H7 := sm56.trans (same_keep sm7)
          have hn7 := (sm6.trans sm7) _ _ hn5
          have lp : (bitsOf m c).length < m := by
            have h1 : (bitsOf m c).length ≤ m := Nat.le_trans (List.length_filter_le _ _) (by rw [List.length_range]; exact Nat.le_refl _)
            have : (bitsOf m c).length ≠ m := fun e => by
              have es : bitsOf m c = List.range m := List.filter_sublist.eq_of_length (by rw [List.length_range]; exact e)
              have : k ∈ bitsOf m c := by
                rw [es]
                exact List.mem_range.mpr hk
              have := (mem_bitsOf.mp this).2
              rw [mko.2.1] at this
              cases this
            omega
          have g1 : DGet H7 wt (.int (c : Int)) (some (V.int ((arr m (kp js) c : Nat) : Int))) := by
            rw [← tab_val (f := arr m (kp js)) mc]
            exact .inl ⟨_, (.inl (c : Int) : Key), .inr ⟨od, k7 _ _ hL wtnu⟩, rfl, rfl⟩
          have mg' : c ||| 2 ^ k ∈ closedL bs := by
            unfold closedL
            rw [List.mem_filter, List.mem_range]
            exact ⟨put_lt cc.1 lk, closed_put N bd cc.2 hmk⟩
          have g2 : DGet H7 wo (.int ((c ||| 2 ^ k : Nat) : Int)) (some (V.int (ways bs (c ||| 2 ^ k) : Nat))) := by
            rw [← val _ mg']
            exact DGet.k (k := (.inl ((c ||| 2 ^ k : Nat) : Int) : Key)) (k7 _ _ hwoL wonu)
          have e2 : ((2 : Int) ^ k) = ((2 ^ k : Nat) : Int) := by
            push_cast
            rfl
          have al := arr_le (ps := kp js) m8 bd c
          have lnv : (nv (bitsOf m c)).length = (bitsOf m c).length := nv_length _
          rw [lnv]
          refine ⟨_, rfl, _, rfl, nu, _, (bitsOf m c).length, _, rfl, rfl, SqL.of hn7, nv_get (numsL_get lp), ?_⟩
          refine ⟨_, rfl, _, rfl, wt, _, rfl, g1, _, rfl, _, rfl, _, rfl, k, rfl, rfl, by omega, c, 2 ^ k, rfl, by rw [e2], wo, _, rfl, g2, _, _, rfl, rfl, .inl ⟨by omega, by omega⟩, _, _, rfl, rfl, nu, _, (bitsOf m c).length, (bitsOf m c).length, rfl, rfl, hn7, by rw [nv_length, numsL_len]; exact ixN_nat lp, ?_⟩
          refine ⟨_, _, rfl, k7.upd, ?_⟩
          have ab : atB bs c k = ways bs (c ||| 2 ^ k) := by
            unfold atB
            rw [if_pos hmk]
          have ep : ((numAt m (kp js) bs k ((closedL bs).take i) (bitsOf m c).length : Nat) : Int) + ((arr m (kp js) c : Nat) : Int) * ((ways bs (c ||| 2 ^ k) : Nat) : Int) = ((numAt m (kp js) bs k ((closedL bs).take i) (bitsOf m c).length + arr m (kp js) c * atB bs c k : Nat) : Int) := by
            rw [ab]
            push_cast
            rfl
          dsimp only
          rw [upd_same, ep, nv_set, numsL_put lp rfl, tk]
        · rw [decide_eq_false (fun h => hmk (memk.mp h))]
          refine iteF ⟨_, _, rfl, k5.trans (same_keep sm6), ?_⟩
          rw [sm6 _ _ hn5, tk, numsL_skip (by unfold atB; rw [if_neg hmk])]
      · rintro σ' H5 ⟨v6, v7, rfl, k5, hn5⟩
        rw [tab_length, List.take_length, numsL_all N bd ok] at hn5
        refine ⟨k5 _ _ hL wtnu, v6, v7, rfl, ?_, by rw [upd_ne wtnu.symm]; exact hn5⟩
        intro b v hb
        have hb4 := sm14 _ _ hb
        have bnu : b ≠ nu := fun e => by
          rw [e, nnu0] at hb
          cases hb
        by_cases bw : b = wt
        · subst bw
          rw [hwt4] at hb4
          cases hb4
          exact upd_same
        · rw [upd_ne bw]
          refine k5 b v ?_ bnu
          rw [← hHL, upd_ne bw]
          exact hb4
    rintro σ' H5 ⟨v6, v7, rfl, sm5, hn5⟩
    exact ⟨_, rfl, q H5 nu sm5 nnu0 hn5⟩
end
end Ev

namespace Ev
open PySem L2
open C8 (pss_cut tCut InsC)
theorem place_total {m : Nat} {ps : List Pr} (bd : In m ps) {k : Nat} (hk : k < m) : (placesN m ps k).sum = (ordersL m ps).length := by
  have e : placesN m ps k = (List.range m).map fun p => ((ordersL m ps).map fun row => if decide (row[p]? = some (k : Int)) = true then 1 else 0).sum := by
    unfold placesN
    refine List.map_congr_left fun p _ => ?_
    rw [sum_if, Nat.mul_one]
    rfl
  rw [e, sum_swap]
  have e2 : ((ordersL m ps).map fun row => ((List.range m).map fun p => if decide (row[p]? = some (k : Int)) = true then 1 else 0).sum) = (ordersL m ps).map fun _ => 1 := by
    refine List.map_congr_left fun row mr => ?_
    have O := (mem_orders bd).mp mr
    have mk : (k : Int) ∈ row := O.ro.all (by omega) (by omega)
    obtain ⟨p, gp⟩ := List.getElem?_of_mem mk
    have lp := (List.getElem?_eq_some_iff.mp gp).1
    rw [sum_one (fun p => decide (row[p]? = some (k : Int))) (fun _ => 1) p List.nodup_range (List.mem_range.mpr (by rw [← O.ro.len]; exact lp)) fun p' mp' => ?_]
    rw [decide_eq_true_eq]
    constructor
    · intro h
      have a := plc_get O.ro.nd gp
      have b := plc_get O.ro.nd h
      omega
    · rintro rfl
      exact gp
  rw [e2]
  clear e e2
  generalize ordersL m ps = l
  induction l with
  | nil => rfl
  | cons a l ih => rw [List.map_cons, List.sum_cons, ih, List.length_cons]; omega
/-- in how many orders the one comes ahead of the other -/
def aheadN (m : Nat) (ps : List Pr) (a b : Int) : Nat := ((ordersL m ps).filter fun row => decide (plc row a < plc row b)).length
theorem ahead_put {m : Nat} {ps qs : List Pr} (b1 : In m ps) (b2 : In m qs) {a b : Int} (cl : Cl (ps ++ [(a, b)]) qs) : (ordersL m qs).length = aheadN m ps a b := orders_more b1 b2 fun row => ord_put cl row
theorem ahead_back {m : Nat} {ps : List Pr} (bd : In m ps) {a b : Int} (h : (b, a) ∈ ps) : aheadN m ps a b = 0 := by
  unfold aheadN
  rw [List.length_eq_zero_iff, List.filter_eq_nil_iff]
  intro row mr e
  have O := (mem_orders bd).mp mr
  have l := O.keep _ _ h
  have e := of_decide_eq_true e
  omega
theorem frN_zero {n : Nat} (h : 1 ≤ n) : frN 0 n = (0, 1) := by
  unfold frN
  rw [Nat.gcd_zero_left, Nat.zero_div, Nat.div_self h]
  rfl
theorem name_of {m : Nat} {o : Option Int} (h : nameB m o = true) : ∃ k : Nat, o = some (k : Int) ∧ k < m := by
  cases o with
  | none => cases h
  | some i =>
    have h : (decide (0 ≤ i) && decide (i < (m : Int))) = true := h
    rw [Bool.and_eq_true, decide_eq_true_eq, decide_eq_true_eq] at h
    obtain ⟨k, rfl⟩ := Int.eq_ofNat_of_zero_le h.1
    exact ⟨k, rfl, by omega⟩
theorem name_nat {m k : Nat} (h : k < m) : nameB m (some (k : Int)) = true := by
  show (decide (0 ≤ (k : Int)) && decide ((k : Int) < (m : Int))) = true
  rw [decide_eq_true (show (0 : Int) ≤ (k : Int) by omega), decide_eq_true (show (k : Int) < (m : Int) by omega)]
  rfl
def meanN (m : Nat) (ps : List Pr) (k : Nat) : Nat := ((List.range m).map fun p => p * placeN m ps k p).sum
end Ev

namespace Ev
open PySem L2
open C8 (pss_cut tCut InsC)
theorem log_small {n : Nat} (h : n < 2 ^ 200) : n.log2 < 9000 := by
  by_cases e : n = 0
  · subst e
    decide
  · have := (Nat.log2_lt e).mpr h
    omega
section
variable {P : Program} {w : World} {K : PySem.W.Frag} {mg : Str → Option Value} {base : Heap}
/-! ### the law's own lowest terms -/
def sp_low (K : PySem.W.Frag) : Sp := fun vs H Q _ => ∃ a b : Nat, vs = [.int (a : Int), .int (b : Int)] ∧ 0 < b ∧ a < 2 ^ 100 ∧ b < 2 ^ 100 ∧
  ∀ H' z, Same H H' → H z = none → H' z = some (.tup [.int (frN a b).1, .int (frN a b).2]) → Q (.ref z) H'
abbrev s_low : Stmt := topS 41 -- @_law_low
abbrev n_low : List Str := ["top", "bottom", "one", "other", "turn"]
theorem sc_low : FnScope n_low ["top", "bottom"] (defScope s_low) := ⟨rfl, rfl, rfl, by decide +kernel, rfl, by decide +kernel, by decide +kernel⟩
theorem ok_low {f : Addr} {fd : FuncData} (F : Fun K "_law_low" "_law_low" s_low f fd) (gA : mg "abs" = none) (B : Bl mg) : FnOk P w K mg base CX0 1 f fd ["top", "bottom"] (sp_low K) := by
  refine F.ok sc_low (fun vs H Q E h => ?_) (fun cdv A outer s H vs Q E hr h => ?_)
  · obtain ⟨a, b, rfl, _⟩ := h
    rfl
  · obtain ⟨a, b, rfl, hb, la, lb, q⟩ := h
    refine ⟨_, pss_cons (ps_set (i := 2) sc_low.nd rfl (Or.inl rfl) (pe_callB call_abs (by rfl) gA (by decide +kernel) (pa_cons (pv 0) pa_nil)))
      (pss_cons (ps_set (i := 3) sc_low.nd rfl (Or.inl rfl) (pv 1))
      (pss_cut (ps_for PassesOwn.never rfl (pi_range1 (by rfl) B.range (pa_cons (pe_int) pa_nil)) (pg_name (i := 4) sc_low.nd rfl (Or.inl rfl))
        (pss_one (ps_if (pt_cmpR op_gt (pv 3) (pe_int) (nomark _))
          (pss_one (ps_par (i := 2) (j := 3) (by rfl) sc_low.nd rfl rfl (by decide) rfl rfl (pa_cons (pv 3) (pa_cons (pe_op op_mod (pe_callTy call_int1 (by rfl) B.int (by decide +kernel) (pa_cons (pv 2) pa_nil)) (pv 3)) pa_nil)) (by rfl)))
          (pss_nil))))
      (pss_one (ps_ret (pe_tup (pa_cons (pe_op op_fdivW (pv 0) (pv 2)) (pa_cons (pe_op op_fdivW (pv 1) (pv 2)) pa_nil))))))), ?_⟩
    refine ⟨_, rfl, _, rfl, ?_⟩
    rw [if_neg (show ¬ (a : Int) < 0 by omega)]
    refine ⟨_, rfl, ?_⟩
    refine ⟨fun σ' H' => ∃ v4 : Option V, σ' = [some (.int (a : Int)), some (.int (b : Int)), some (.int (Nat.gcd a b : Nat)), some (.int 0), v4] ∧ Same H H', ?_, ?_⟩
    · refine ⟨400, rfl, by decide, by decide, for_range (lo := 0) (n := 400) (fun i σ' H' => ∃ (u v : Nat) (v4 : Option V), σ' = [some (.int (a : Int)), some (.int (b : Int)), some (.int (u : Int)), some (.int (v : Int)), v4] ∧ Same H H' ∧ ((i = 0 ∧ u = a ∧ v = b) ∨ (∃ j, i = j + 1 ∧ Euc a b j u v))) ?_ ?_ ?_⟩
      · exact ⟨a, b, none, rfl, Same.refl H, .inl ⟨rfl, rfl, rfl⟩⟩
      · rintro i σ' H1 hi ⟨u, v, v4, rfl, sm, cs⟩
        refine ⟨_, rfl, _, _, rfl, rfl, _, rfl, ?_⟩
        by_cases hv : 0 < v
        · rw [decide_eq_true (show (0 : Int) < (v : Int) by omega)]
          refine iteT ⟨_, rfl, _, rfl, .inl ⟨_, rfl, _, rfl, _, _, rfl, rfl, by omega, _, _, rfl, ?_⟩⟩
          have e : V.int ((u : Int) % (v : Int)) = V.int ((u % v : Nat) : Int) := by
            rw [Int.natCast_emod]
          refine ⟨v, u % v, _, by rw [← e]; rfl, sm, .inr ⟨i, rfl, ?_⟩⟩
          rcases cs with ⟨rfl, rfl, rfl⟩ | ⟨j, rfl, E⟩
          · exact euc_first hv
          · exact euc_next E hv
        · rw [decide_eq_false (show ¬ (0 : Int) < (v : Int) by omega)]
          refine iteF ⟨u, v, _, rfl, sm, .inr ⟨i, rfl, ?_⟩⟩
          rcases cs with ⟨rfl, rfl, rfl⟩ | ⟨j, rfl, E⟩
          · exact absurd hb hv
          · exact euc_stay E (by omega)
      · rintro σ' H1 ⟨u, v, v4, rfl, sm, cs⟩
        rcases cs with ⟨h, _⟩ | ⟨j, e, E⟩
        · cases h
        · have le : a * b < 2 ^ j := by
            have : j = 399 := by omega
            subst this
            have h1 : a * b ≤ 2 ^ 100 * 2 ^ 100 := Nat.mul_le_mul (Nat.le_of_lt la) (Nat.le_of_lt lb)
            exact Nat.lt_of_le_of_lt h1 (Nat.lt_of_lt_of_le (show 2 ^ 100 * 2 ^ 100 < 2 ^ 201 by decide) (Nat.pow_le_pow_right (by decide) (by decide)))
          obtain ⟨rfl, rfl⟩ := euc_end E le
          exact ⟨v4, rfl, sm⟩
    rintro σ' H1 ⟨v4, rfl, sm⟩
    have g0 : 0 < Nat.gcd a b := Nat.gcd_pos_of_pos_right _ hb
    have gl : Nat.gcd a b < 2 ^ 200 := Nat.lt_of_le_of_lt (Nat.gcd_le_right _ hb) (Nat.lt_of_lt_of_le lb (Nat.pow_le_pow_right (by decide) (by decide)))
    have cd : (0 : Int) < ((Nat.gcd a b : Nat) : Int) ∧ ((Nat.gcd a b : Nat) : Int).natAbs.log2 < 9000 := ⟨by omega, by rw [Int.natAbs_natCast]; exact log_small gl⟩
    refine ⟨_, rfl, _, rfl, _, _, rfl, rfl, cd, _, rfl, _, rfl, _, _, rfl, rfl, cd, (by show 2 ≤ sizeLine; decide), fun z nz => ?_⟩
    exact q _ z (same_upd sm (none_of sm nz)) (none_of sm nz) upd_same
/-! ### fractions put together -/
/-- a fraction in the heap -/
def FrAt (K : PySem.W.Frag) (H : Hp) (p : Addr) (n d : Nat) : Prop := SqT K H p [.int (n : Int), .int (d : Int)]
def sp_plus (K : PySem.W.Frag) : Sp := fun vs H Q _ => ∃ (p r : Addr) (n1 d1 n2 d2 : Nat), vs = [.ref p, .ref r] ∧ FrAt K H p n1 d1 ∧ FrAt K H r n2 d2 ∧ 0 < d1 ∧ 0 < d2 ∧ n1 < 2 ^ 40 ∧ n2 < 2 ^ 40 ∧ d1 < 2 ^ 40 ∧ d2 < 2 ^ 40 ∧
  ∀ H' z, Same H H' → H z = none → H' z = some (.tup [.int (frN (n1 * d2 + n2 * d1) (d1 * d2)).1, .int (frN (n1 * d2 + n2 * d1) (d1 * d2)).2]) → Q (.ref z) H'
abbrev s_plus : Stmt := topS 42 -- @_law_plus
abbrev n_plus : List Str := ["one", "other"]
theorem sc_plus : FnScope n_plus ["one", "other"] (defScope s_plus) := ⟨rfl, rfl, rfl, by decide +kernel, rfl, by decide +kernel, by decide +kernel⟩
theorem mul_below {a b : Nat} (ha : a < 2 ^ 40) (hb : b < 2 ^ 40) : a * b < 2 ^ 80 := by
  rcases Nat.eq_zero_or_pos b with e | e
  · subst e
    rw [Nat.mul_zero]
    decide
  · calc a * b < 2 ^ 40 * b := Nat.mul_lt_mul_of_pos_right ha e
      _ ≤ 2 ^ 40 * 2 ^ 40 := Nat.mul_le_mul_left _ (Nat.le_of_lt hb)
      _ = 2 ^ 80 := by decide
theorem ok_plus {f f1 : Addr} {fd fd1 : FuncData} (F : Fun K "_law_plus" "_law_plus" s_plus f fd) (D1 : Df K mg "_law_low" s_low ["top", "bottom"] f1 fd1) (G1 : FnOk P w K mg base CX0 1 f1 fd1 ["top", "bottom"] (sp_low K)) : FnOk P w K mg base CX0 2 f fd ["one", "other"] (sp_plus K) := by
  refine F.ok sc_plus (fun vs H Q E h => ?_) (fun cdv A outer s H vs Q E hr h => ?_)
  · obtain ⟨p, r, n1, d1, n2, d2, rfl, _⟩ := h
    rfl
  · obtain ⟨p, r, n1, d1, n2, d2, rfl, h1, h2, p1, p2, b1, b2, b3, b4, q⟩ := h
    refine ⟨_, pss_one (ps_ret (pe_call G1 hr rfl D1.g D1.F.kp D1.b .nil pass0 (pa_cons (pe_op op_add (pe_op op_mul (pe_ix ix_tup (pv 0) (pe_int) (fun _ _ => rfl)) (pe_ix ix_tup (pv 1) (pe_int) (fun _ _ => rfl))) (pe_op op_mul (pe_ix ix_tup (pv 1) (pe_int) (fun _ _ => rfl)) (pe_ix ix_tup (pv 0) (pe_int) (fun _ _ => rfl)))) (pa_cons (pe_op op_mul (pe_ix ix_tup (pv 0) (pe_int) (fun _ _ => rfl)) (pe_ix ix_tup (pv 1) (pe_int) (fun _ _ => rfl))) pa_nil)))), ?_⟩
    have cm : ∀ {a : Nat} {j : Int}, a < 2 ^ 40 → CMul (a : Int) j := fun {a j} h => Or.inl ⟨by omega, by omega⟩
    refine ⟨_, rfl, p, _, 0, _, rfl, rfl, h1, rfl, _, rfl, r, _, 1, _, rfl, rfl, h2, rfl, _, _, rfl, rfl, cm b1, ?_⟩
    refine ⟨_, rfl, r, _, 0, _, rfl, rfl, h2, rfl, _, rfl, p, _, 1, _, rfl, rfl, h1, rfl, _, _, rfl, rfl, cm b2, _, _, rfl, rfl, ?_⟩
    refine ⟨_, rfl, p, _, 1, _, rfl, rfl, h1, rfl, _, rfl, r, _, 1, _, rfl, rfl, h2, rfl, _, _, rfl, rfl, cm b3, ?_⟩
    have m1 := mul_below b1 b4
    have m2 := mul_below b2 b3
    have m3 := mul_below b3 b4
    refine ⟨n1 * d2 + n2 * d1, d1 * d2, by push_cast; rfl, Nat.mul_pos p1 p2, ?_, ?_, q⟩
    · have : (2 : Nat) ^ 80 + 2 ^ 80 < 2 ^ 100 := by decide
      omega
    · have : (2 : Nat) ^ 80 < 2 ^ 100 := by decide
      omega
end
end Ev

namespace Ev
open PySem L2
open C8 (pss_cut tCut InsC)
/-- a fraction, as it stands -/
abbrev FrX (K : PySem.W.Frag) (H : Hp) (z : Addr) (p : Pr) : Prop := SqT K H z ([p.1, p.2].map V.int)
section
variable {P : Program} {w : World} {K : PySem.W.Frag} {mg : Str → Option Value} {base : Heap}
theorem mn_noX {m a : Nat} {Z : Prop} (ha : a < m) (h : nameB m (some (a : Int)) = false) : Z := by
  rw [name_nat ha] at h
  cases h
theorem nat_ofX {a k : Nat} (h : some (a : Int) = some (k : Int)) : k = a := by
  have := Option.some.inj h
  omega
theorem fr_eqvX (p q : Pr) : PyData.eqv (intD [p.1, p.2]) (intD [q.1, q.2]) = decide (p = q) := by
  rw [eqv_intDG]
  by_cases h : p = q
  · rw [h, decide_eq_true rfl, decide_eq_true rfl]
  · rw [decide_eq_false h, decide_eq_false fun e => h (pair_inj e)]
theorem plus_partsX {H : Hp} {a b c : Nat} {y z : Addr} (hb : 0 < b) (la : a < 2 ^ 40) (lb : b < 2 ^ 40) (lc : c < 2 ^ 40) (h1 : FrX K H y (frN a b)) (h2 : FrX K H z (frN c b)) : ∃ n1 d1 n2 d2 : Nat, FrAt K H y n1 d1 ∧ FrAt K H z n2 d2 ∧ 0 < d1 ∧ 0 < d2 ∧ n1 < 2 ^ 40 ∧ n2 < 2 ^ 40 ∧ d1 < 2 ^ 40 ∧ d2 < 2 ^ 40 ∧ frN (n1 * d2 + n2 * d1) (d1 * d2) = frN (a + c) b := by
  obtain ⟨n1, d1, e1, p1, l1, k1, t1⟩ := frN_parts (a := a) hb
  obtain ⟨n2, d2, e2, p2, l2, k2, t2⟩ := frN_parts (a := c) hb
  rw [e1] at h1
  rw [e2] at h2
  exact ⟨n1, d1, n2, d2, h1, h2, p1, p2, by omega, by omega, by omega, by omega, frN_plus hb p1 p2 t1 t2⟩
theorem times_partsX {H : Hp} {b c : Nat} {z : Addr} (j : Nat) (hb : 0 < b) (lb : b < 2 ^ 40) (lc : c < 2 ^ 40) (h2 : FrX K H z (frN c b)) : ∃ n2 d2 : Nat, FrAt K H z n2 d2 ∧ 0 < d2 ∧ n2 < 2 ^ 40 ∧ d2 < 2 ^ 40 ∧ frN (j * n2) (1 * d2) = frN (j * c) b := by
  obtain ⟨n2, d2, e2, p2, l2, k2, t2⟩ := frN_parts (a := c) hb
  rw [e2] at h2
  refine ⟨n2, d2, h2, p2, by omega, by omega, ?_⟩
  have := frN_times (a := j) (b := 1) (c := c) (e := b) (n1 := j) (d1 := 1) Nat.one_pos hb Nat.one_pos p2 rfl t2
  rw [this, Nat.one_mul]
def sp_times (K : PySem.W.Frag) : Sp := fun vs H Q _ => ∃ (p r : Addr) (n1 d1 n2 d2 : Nat), vs = [.ref p, .ref r] ∧ FrAt K H p n1 d1 ∧ FrAt K H r n2 d2 ∧ 0 < d1 ∧ 0 < d2 ∧ n1 < 2 ^ 40 ∧ n2 < 2 ^ 40 ∧ d1 < 2 ^ 40 ∧ d2 < 2 ^ 40 ∧
  ∀ H' z, Same H H' → H z = none → H' z = some (.tup [.int (frN (n1 * n2) (d1 * d2)).1, .int (frN (n1 * n2) (d1 * d2)).2]) → Q (.ref z) H'
abbrev s_times : Stmt := topS 43 -- @_law_times
abbrev n_times : List Str := ["one", "other"]
theorem sc_times : FnScope n_times ["one", "other"] (defScope s_times) := ⟨rfl, rfl, rfl, by decide +kernel, rfl, by decide +kernel, by decide +kernel⟩
theorem ok_times {f f1 : Addr} {fd fd1 : FuncData} (F : Fun K "_law_times" "_law_times" s_times f fd) (D1 : Df K mg "_law_low" s_low ["top", "bottom"] f1 fd1) (G1 : FnOk P w K mg base CX0 1 f1 fd1 ["top", "bottom"] (sp_low K)) : FnOk P w K mg base CX0 2 f fd ["one", "other"] (sp_times K) := by
  refine F.ok sc_times (fun vs H Q E h => ?_) (fun cdv A outer s H vs Q E hr h => ?_)
  · obtain ⟨p, r, n1, d1, n2, d2, rfl, _⟩ := h
    rfl
  · obtain ⟨p, r, n1, d1, n2, d2, rfl, h1, h2, p1, p2, b1, b2, b3, b4, q⟩ := h
    refine ⟨_, pss_one (ps_ret (pe_call G1 hr rfl D1.g D1.F.kp D1.b .nil pass0 (pa_cons (pe_op op_mul (pe_ix ix_tup (pv 0) (pe_int) (fun _ _ => rfl)) (pe_ix ix_tup (pv 1) (pe_int) (fun _ _ => rfl))) (pa_cons (pe_op op_mul (pe_ix ix_tup (pv 0) (pe_int) (fun _ _ => rfl)) (pe_ix ix_tup (pv 1) (pe_int) (fun _ _ => rfl))) pa_nil)))), ?_⟩
    have cm : ∀ {a : Nat} {j : Int}, a < 2 ^ 40 → CMul (a : Int) j := fun {a j} h => Or.inl ⟨by omega, by omega⟩
    refine ⟨_, rfl, p, _, 0, _, rfl, rfl, h1, rfl, _, rfl, r, _, 0, _, rfl, rfl, h2, rfl, _, _, rfl, rfl, cm b1, ?_⟩
    refine ⟨_, rfl, p, _, 1, _, rfl, rfl, h1, rfl, _, rfl, r, _, 1, _, rfl, rfl, h2, rfl, _, _, rfl, rfl, cm b3, ?_⟩
    have m1 := mul_below b1 b2
    have m3 := mul_below b3 b4
    have : (2 : Nat) ^ 80 < 2 ^ 100 := by decide
    exact ⟨n1 * n2, d1 * d2, by push_cast; rfl, Nat.mul_pos p1 p2, by omega, by omega, q⟩
end
end Ev

namespace Ev
open PySem L2
open C8 (pss_cut tCut InsC)
/-! ### a before more -/
def putP (ps : List Pr) (a b : Int) (p : Pr) : Prop := p ∈ ps ∨ ((p.1 = a ∨ (p.1, a) ∈ ps) ∧ (p.2 = b ∨ (b, p.2) ∈ ps))
instance (ps : List Pr) (a b : Int) : DecidablePred (putP ps a b) := fun p => by unfold putP; infer_instance
def putL (m : Nat) (ps : List Pr) (a b : Int) : List Pr := ((upto m).flatMap fun x => (upto m).map fun y => (x, y)).filter fun p => decide (putP ps a b p)
theorem mem_putL {m : Nat} {ps : List Pr} {a b : Int} {p : Pr} : p ∈ putL m ps a b ↔ (0 ≤ p.1 ∧ p.1 < m ∧ 0 ≤ p.2 ∧ p.2 < m) ∧ putP ps a b p := by
  unfold putL
  rw [List.mem_filter, List.mem_flatMap, decide_eq_true_eq]
  refine and_congr_left fun _ => ?_
  constructor
  · rintro ⟨x, mx, mp⟩
    obtain ⟨y, my, rfl⟩ := List.mem_map.mp mp
    have := mem_upto.mp mx
    have := mem_upto.mp my
    simp only
    omega
  · intro h
    exact ⟨p.1, mem_upto.mpr ⟨h.1, h.2.1⟩, List.mem_map.mpr ⟨p.2, mem_upto.mpr ⟨h.2.2.1, h.2.2.2⟩, rfl⟩⟩
theorem ups_put {m : Nat} {ps : List Pr} {a b : Int} (h : RowsOk m ps) (m8 : m ≤ 8) (ab : 0 ≤ a ∧ a < m ∧ 0 ≤ b ∧ b < m) (ne : a ≠ b) (nb : (b, a) ∉ ps) : UpsOk (ps ++ [(a, b)]) := by
  have tr := h.tr
  have ir := h.ok.ne
  have inL : In m (putL m ps a b) := fun p mp => (mem_putL.mp mp).1
  have trL : Trn (putL m ps a b) := fun x y z h1 h2 => by
    obtain ⟨i1, p1⟩ := mem_putL.mp h1
    obtain ⟨i2, p2⟩ := mem_putL.mp h2
    simp only at i1 i2
    refine mem_putL.mpr ⟨⟨i1.1, i1.2.1, i2.2.2.1, i2.2.2.2⟩, ?_⟩
    rcases p1 with p1 | ⟨p1, p1'⟩ <;> rcases p2 with p2 | ⟨p2, p2'⟩
    · exact .inl (tr _ _ _ p1 p2)
    · refine .inr ⟨.inr ?_, p2'⟩
      rcases p2 with e | e
      · simp only at e
        subst e
        exact p1
      · exact tr _ _ _ p1 e
    · refine .inr ⟨p1, .inr ?_⟩
      rcases p1' with e | e
      · simp only at e
        subst e
        exact p2
      · exact tr _ _ _ e p2
    · exfalso
      simp only at p1' p2
      rcases p1' with e | e <;> rcases p2 with e' | e'
      · exact ne (e'.symm.trans e)
      · rw [e] at e'
        exact nb e'
      · rw [e'] at e
        exact nb e
      · exact nb (tr _ _ _ e e')
  have neL : ∀ p ∈ putL m ps a b, p.1 ≠ p.2 := fun p mp e => by
    obtain ⟨_, q | ⟨q, q'⟩⟩ := mem_putL.mp mp
    · exact ir _ q e
    · rw [e] at q
      rcases q with q | q <;> rcases q' with q' | q'
      · exact ne (q.symm.trans q')
      · rw [q] at q'
        exact nb q'
      · rw [q'] at q
        exact nb q
      · exact nb (tr _ _ _ q' q)
  refine (ups_of_trn inL m8 trL neL).sub fun p mp => ?_
  rcases List.mem_append.mp mp with mp | mp
  · exact mem_putL.mpr ⟨h.bd p mp, .inl mp⟩
  · rw [List.mem_singleton.mp mp]
    exact mem_putL.mpr ⟨ab, .inr ⟨.inl rfl, .inl rfl⟩⟩
/-! ### a straight before less -/
def lessL (ps : List Pr) (p : Pr) : List Pr := ps.filter fun q => decide (q ≠ p)
theorem mem_less {ps : List Pr} {p q : Pr} : q ∈ lessL ps p ↔ q ∈ ps ∧ q ≠ p := by
  unfold lessL
  rw [List.mem_filter, decide_eq_true_eq]
end Ev

namespace Ev
open PySem L2
/-! ### who comes ahead, and where names stand -/
theorem plc_ne {m : Nat} {row : List Int} (R : RowOk m row) {a b : Int} (ha : 0 ≤ a ∧ a < m) (hb : 0 ≤ b ∧ b < m) (ne : a ≠ b) : plc row a ≠ plc row b := fun e => by
  have p := (plc_at (R.all ha.1 ha.2)).1
  have q := (plc_at (R.all hb.1 hb.2)).1
  rw [e, q] at p
  exact ne (Option.some.inj p).symm
theorem ahead_two {m : Nat} {ps : List Pr} (bd : In m ps) {a b : Int} (ha : 0 ≤ a ∧ a < m) (hb : 0 ≤ b ∧ b < m) (ne : a ≠ b) : aheadN m ps a b + aheadN m ps b a = (ordersL m ps).length := by
  rw [← flt_split (fun row => decide (plc row a < plc row b)) (ordersL m ps)]
  unfold aheadN
  congr 2
  refine List.filter_congr fun row mr => ?_
  have := plc_ne ((mem_orders bd).mp mr).ro ha hb ne
  by_cases h : plc row a < plc row b
  · rw [decide_eq_true h, decide_eq_false (by omega)]
    rfl
  · rw [decide_eq_false h, decide_eq_true (by omega)]
    rfl
theorem ahead_some {m : Nat} {ps : List Pr} (h : RowsOk m ps) (m8 : m ≤ 8) {a b : Int} (ha : 0 ≤ a ∧ a < m) (hb : 0 ≤ b ∧ b < m) (ne : a ≠ b) (nb : (b, a) ∉ ps) : 0 < aheadN m ps a b := by
  have ok := ups_put h m8 ⟨ha.1, ha.2, hb.1, hb.2⟩ ne nb
  have bd2 : In m (ps ++ [(a, b)]) := fun p mp => by
    rcases List.mem_append.mp mp with mp | mp
    · exact h.bd p mp
    · rw [List.mem_singleton.mp mp]
      exact ⟨ha.1, ha.2, hb.1, hb.2⟩
  have pos := orders_posU ok bd2
  obtain ⟨row, mr⟩ := List.exists_mem_of_length_pos pos
  have O := (mem_orders bd2).mp mr
  unfold aheadN
  rw [List.length_pos_iff]
  intro e
  rw [List.filter_eq_nil_iff] at e
  refine e row ((mem_orders h.bd).mpr ⟨O.ro, fun x y mp => O.keep x y (List.mem_append.mpr (.inl mp))⟩) ?_
  rw [decide_eq_true_eq]
  exact O.keep a b (List.mem_append.mpr (.inr List.mem_cons_self))
theorem ahead_none {m : Nat} {ps : List Pr} (h : RowsOk m ps) (m8 : m ≤ 8) {a b : Int} (ha : 0 ≤ a ∧ a < m) (hb : 0 ≤ b ∧ b < m) (ne : a ≠ b) : aheadN m ps a b = 0 ↔ (b, a) ∈ ps := by
  constructor
  · intro e
    by_cases c : (b, a) ∈ ps
    · exact c
    · have := ahead_some h m8 ha hb ne c
      omega
  · exact ahead_back h.bd
theorem ahead_all {m : Nat} {ps : List Pr} (h : RowsOk m ps) (m8 : m ≤ 8) {a b : Int} (ha : 0 ≤ a ∧ a < m) (hb : 0 ≤ b ∧ b < m) (ne : a ≠ b) : aheadN m ps a b = (ordersL m ps).length ↔ (a, b) ∈ ps := by
  have s := ahead_two h.bd ha hb ne
  rw [← ahead_none h m8 hb ha fun e => ne e.symm]
  omega
/-- who is ahead of a name in a row, counted -/
theorem plc_count {m : Nat} {row : List Int} (R : RowOk m row) {k : Int} (hk : 0 ≤ k ∧ k < m) : ((List.range m).map fun j : Nat => if decide (plc row (j : Int) < plc row k) = true then 1 else 0).sum = plc row k := by
  have e0 : ((List.range m).map fun j : Nat => if decide (plc row (j : Int) < plc row k) = true then 1 else 0) = ((upto m).map fun a => if decide (plc row a < plc row k) = true then 1 else 0) := by
    unfold upto
    rw [List.map_map]
    rfl
  rw [e0, sum_if, Nat.mul_one]
  have pm : (upto m).Perm row := (List.perm_ext_iff_of_nodup ((upto_asc m).imp fun l => by omega) R.nd).mpr fun x => by
    rw [mem_upto]
    exact ⟨fun h => R.all h.1 h.2, fun h => R.bd x h⟩
  rw [(pm.filter _).length_eq]
  have lt := (plc_at (R.all hk.1 hk.2)).2
  generalize plc row k = n at lt ⊢
  have key : row.filter (fun a => decide (plc row a < n)) = row.take n := by
    have e : row = row.take n ++ row.drop n := (List.take_append_drop n row).symm
    have nd := R.nd
    have f1 : ∀ a ∈ row.take n, decide (plc row a < n) = true := fun a ma => by
      obtain ⟨i, gi⟩ := List.getElem?_of_mem ma
      have li := (List.getElem?_eq_some_iff.mp gi).1
      rw [List.length_take] at li
      rw [List.getElem?_take, if_pos (by omega)] at gi
      rw [plc_get nd gi]
      exact decide_eq_true (by omega)
    have f2 : ∀ a ∈ row.drop n, ¬ decide (plc row a < n) = true := fun a ma => by
      obtain ⟨i, gi⟩ := List.getElem?_of_mem ma
      rw [List.getElem?_drop] at gi
      rw [plc_get nd gi, decide_eq_true_eq]
      omega
    generalize hq : (fun a => decide (plc row a < n)) = qq at f1 f2 ⊢
    rw [show row.filter qq = (row.take n ++ row.drop n).filter qq by rw [← e], List.filter_append, List.filter_eq_self.mpr (fun a ma => by rw [← hq]; exact f1 a ma), List.filter_eq_nil_iff.mpr (fun a ma => by rw [← hq]; exact f2 a ma), List.append_nil]
  rw [key, List.length_take]
  omega
theorem place_row {m : Nat} {row : List Int} (R : RowOk m row) {k : Int} (hk : 0 ≤ k ∧ k < m) : ((List.range m).map fun p => if decide (row[p]? = some k) = true then p else 0).sum = plc row k := by
  have q := plc_at (R.all hk.1 hk.2)
  refine sum_one (fun p => decide (row[p]? = some k)) (fun p => p) (plc row k) List.nodup_range (List.mem_range.mpr (by rw [← R.len]; exact q.2)) fun p mp => ?_
  rw [decide_eq_true_eq]
  exact ⟨fun h => (plc_get R.nd h).symm, fun e => e ▸ q.1⟩
theorem flt_sum {α : Type} (p : α → Bool) (c : Nat) (l : List α) : c * (l.filter p).length = (l.map fun a => if p a = true then c else 0).sum := by
  rw [sum_if, Nat.mul_comm]
/-- the places, summed: by who is ahead -/
theorem mean_ahead {m : Nat} {ps : List Pr} (bd : In m ps) {k : Nat} (hk : k < m) : meanN m ps k = ((List.range m).map fun j : Nat => aheadN m ps (j : Int) (k : Int)).sum := by
  have hk' : 0 ≤ (k : Int) ∧ (k : Int) < m := ⟨by omega, by omega⟩
  have e1 : meanN m ps k = ((ordersL m ps).map fun row => plc row (k : Int)).sum := by
    unfold meanN placeN
    rw [List.map_congr_left fun p _ => flt_sum (fun row : List Int => decide (row[p]? = some (k : Int))) p (ordersL m ps), sum_swap]
    congr 1
    exact List.map_congr_left fun row mr => place_row ((mem_orders bd).mp mr).ro hk'
  have e2 : ((List.range m).map fun j : Nat => aheadN m ps (j : Int) (k : Int)).sum = ((ordersL m ps).map fun row => plc row (k : Int)).sum := by
    unfold aheadN
    rw [List.map_congr_left fun (j : Nat) _ => (by rw [← flt_sum, Nat.one_mul] : ((ordersL m ps).filter fun row => decide (plc row (j : Int) < plc row (k : Int))).length = ((ordersL m ps).map fun row => if decide (plc row (j : Int) < plc row (k : Int)) = true then 1 else 0).sum), sum_swap]
    congr 1
    exact List.map_congr_left fun row mr => plc_count ((mem_orders bd).mp mr).ro hk'
  rw [e1, e2]
theorem ahead_self {m : Nat} {ps : List Pr} (a : Int) : aheadN m ps a a = 0 := by
  unfold aheadN
  rw [List.length_eq_zero_iff, List.filter_eq_nil_iff]
  intro row _ e
  have := of_decide_eq_true e
  omega
theorem ahead_le {m : Nat} {ps : List Pr} (a b : Int) : aheadN m ps a b ≤ (ordersL m ps).length := List.length_filter_le _ _
end Ev

namespace Ev
open PySem L2
/-! ### rows turned about -/
theorem RowOk.rev {m : Nat} {row : List Int} (R : RowOk m row) : RowOk m row.reverse := ⟨by rw [List.length_reverse]; exact R.len, List.pairwise_reverse.mpr (R.nd.imp fun ne e => ne e.symm), fun x mx => R.bd x (List.mem_reverse.mp mx)⟩
theorem get_rev {m : Nat} {row : List Int} (R : RowOk m row) {p : Nat} (hp : p < m) : row.reverse[m - 1 - p]? = row[p]? := by
  have l := R.len
  rw [List.getElem?_reverse (by omega), show row.length - 1 - (m - 1 - p) = p by omega]
theorem plc_revX {m : Nat} {row : List Int} (R : RowOk m row) {a : Int} (ma : a ∈ row) : plc row.reverse a = m - 1 - plc row a := by
  have p := plc_at ma
  rw [R.len] at p
  exact plc_get R.rev.nd ((get_rev R p.2).trans p.1)
theorem ord_revX {m : Nat} {ps qs : List Pr} {row : List Int} (bd : In m ps) (h : ∀ p, p ∈ qs ↔ swp p ∈ ps) (O : OrdOk m ps row) : OrdOk m qs row.reverse := by
  refine ⟨O.ro.rev, fun a b mq => ?_⟩
  have mp : (b, a) ∈ ps := (h _).mp mq
  have l := O.keep b a mp
  have bb := bd _ mp
  have ib : b ∈ row := O.ro.all bb.1 bb.2.1
  have ia : a ∈ row := O.ro.all bb.2.2.1 bb.2.2.2
  have pa := (plc_at ia).2
  rw [O.ro.len] at pa
  rw [plc_revX O.ro ia, plc_revX O.ro ib]
  omega
theorem orders_rev {m : Nat} {ps qs : List Pr} (b1 : In m ps) (b2 : In m qs) (h : ∀ p, p ∈ qs ↔ swp p ∈ ps) : (ordersL m qs).Perm ((ordersL m ps).map List.reverse) := by
  have h' : ∀ p, p ∈ ps ↔ swp p ∈ qs := fun p => ⟨fun e => (h _).mpr e, fun e => (h _).mp e⟩
  have nd : ((ordersL m ps).map List.reverse).Nodup := List.pairwise_map.mpr (orders_nodup.imp fun {a b} ne e => ne (by rw [← List.reverse_reverse a, e, List.reverse_reverse]))
  refine (List.perm_ext_iff_of_nodup orders_nodup nd).mpr fun row => ?_
  rw [mem_orders b2, List.mem_map]
  constructor
  · intro O
    exact ⟨row.reverse, (mem_orders b1).mpr (ord_revX b2 h' O), List.reverse_reverse row⟩
  · rintro ⟨r, mr, rfl⟩
    exact ord_revX b1 h ((mem_orders b1).mp mr)
theorem orders_revN {m : Nat} {ps qs : List Pr} (b1 : In m ps) (b2 : In m qs) (h : ∀ p, p ∈ qs ↔ swp p ∈ ps) : (ordersL m qs).length = (ordersL m ps).length := by
  rw [(orders_rev b1 b2 h).length_eq, List.length_map]
theorem place_rev {m : Nat} {ps qs : List Pr} (b1 : In m ps) (b2 : In m qs) (h : ∀ p, p ∈ qs ↔ swp p ∈ ps) {k : Int} {p : Nat} (hp : p < m) : placeN m qs k (m - 1 - p) = placeN m ps k p := by
  unfold placeN
  rw [((orders_rev b1 b2 h).filter _).length_eq, List.filter_map, List.length_map]
  congr 1
  refine List.filter_congr fun row mr => ?_
  show decide (row.reverse[m - 1 - p]? = some k) = _
  rw [get_rev ((mem_orders b1).mp mr).ro hp]
/-! ### sums, as far as they are done -/
def sumTo (f : Nat → Nat) (i : Nat) : Nat := ((List.range i).map f).sum
theorem sumTo_zero (f : Nat → Nat) : sumTo f 0 = 0 := rfl
theorem sumTo_succ (f : Nat → Nat) (i : Nat) : sumTo f (i + 1) = sumTo f i + f i := by
  unfold sumTo
  rw [List.range_succ, List.map_append, List.sum_append]
  show _ + (f i + 0) = _
  omega
theorem sumTo_le {f : Nat → Nat} {c : Nat} (h : ∀ j, f j ≤ c) : ∀ i, sumTo f i ≤ i * c
  | 0 => Nat.zero_le _
  | i + 1 => by
    rw [sumTo_succ, Nat.succ_mul]
    have := sumTo_le h i
    have := h i
    omega
theorem place_le {m : Nat} {ps : List Pr} (k : Int) (p : Nat) : placeN m ps k p ≤ (ordersL m ps).length := List.length_filter_le _ _
/-- each place is somebody's -/
theorem place_col {m : Nat} {ps : List Pr} (bd : In m ps) {p : Nat} (hp : p < m) : sumTo (fun k => placeN m ps (k : Int) p) m = (ordersL m ps).length := by
  have e : sumTo (fun k => placeN m ps (k : Int) p) m = ((List.range m).map fun k : Nat => ((ordersL m ps).map fun row => if decide (row[p]? = some (k : Int)) = true then 1 else 0).sum).sum := by
    unfold sumTo
    congr 1
    refine List.map_congr_left fun k _ => ?_
    rw [sum_if, Nat.mul_one]
    rfl
  rw [e, sum_swap]
  have e2 : ((ordersL m ps).map fun row => ((List.range m).map fun k : Nat => if decide (row[p]? = some (k : Int)) = true then 1 else 0).sum) = (ordersL m ps).map fun _ => 1 := by
    refine List.map_congr_left fun row mr => ?_
    have O := (mem_orders bd).mp mr
    have lr := O.ro.len
    have gp : row[p]? = some (row[p]'(by omega)) := List.getElem?_eq_getElem _
    have bx := O.ro.bd _ (List.mem_of_getElem? gp)
    generalize row[p]'(by omega) = x at gp bx
    obtain ⟨k, rfl⟩ := Int.eq_ofNat_of_zero_le bx.1
    rw [sum_one (fun k : Nat => decide (row[p]? = some (k : Int))) (fun _ => 1) k List.nodup_range (List.mem_range.mpr (by omega)) fun k' mk' => ?_]
    rw [decide_eq_true_eq, gp]
    exact ⟨fun h => by have := Option.some.inj h; omega, fun h => by rw [h]⟩
  rw [e2]
  clear e e2
  generalize ordersL m ps = l
  induction l with
  | nil => rfl
  | cons a l ih => rw [List.map_cons, List.sum_cons, ih, List.length_cons]; omega
theorem place_tot {m : Nat} {ps : List Pr} (bd : In m ps) {k : Nat} (hk : k < m) : sumTo (fun p => placeN m ps (k : Int) p) m = (ordersL m ps).length := place_total bd hk
theorem mean_to {m : Nat} {ps : List Pr} (k : Nat) : sumTo (fun p => p * placeN m ps (k : Int) p) m = meanN m ps k := rfl
/-- the places of a name, summed -/
theorem mean_plc {m : Nat} {ps : List Pr} (bd : In m ps) {k : Nat} (hk : k < m) : meanN m ps k = ((ordersL m ps).map fun row => plc row (k : Int)).sum := by
  have hk' : 0 ≤ (k : Int) ∧ (k : Int) < m := ⟨by omega, by omega⟩
  unfold meanN placeN
  rw [List.map_congr_left fun p _ => flt_sum (fun row : List Int => decide (row[p]? = some (k : Int))) p (ordersL m ps), sum_swap]
  congr 1
  exact List.map_congr_left fun row mr => place_row ((mem_orders bd).mp mr).ro hk'
theorem sum_mulN {α : Type} (f : α → Nat) (c : Nat) : ∀ l : List α, (l.map fun a => c * f a).sum = c * (l.map f).sum
  | [] => rfl
  | a :: l => by rw [List.map_cons, List.sum_cons, sum_mulN f c l, List.map_cons, List.sum_cons, Nat.mul_add]
/-- all the means together -/
theorem means_all {m : Nat} {ps : List Pr} (bd : In m ps) : sumTo (fun k => meanN m ps k) m = (List.range m).sum * (ordersL m ps).length := by
  unfold sumTo meanN
  rw [sum_swap]
  have e : ((List.range m).map fun p => ((List.range m).map fun k : Nat => p * placeN m ps (k : Int) p).sum) = (List.range m).map fun p => (ordersL m ps).length * p := by
    refine List.map_congr_left fun p mp => ?_
    rw [sum_mulN, Nat.mul_comm]
    congr 1
    exact place_col bd (List.mem_range.mp mp)
  rw [e]
  have e3 := sum_mulN (fun p : Nat => p) (ordersL m ps).length (List.range m)
  rw [e3, List.map_id', Nat.mul_comm]
theorem range_sum8 {m : Nat} (h : m ≤ 8) : (List.range m).sum = m * (m - 1) / 2 := by
  have key : ∀ m : Fin 9, (List.range m.val).sum = m.val * (m.val - 1) / 2 := by decide
  exact key ⟨m, by omega⟩
end Ev

namespace Ev
open PySem L2
open C8 (pss_cut tCut InsC)
section
variable {P : Program} {w : World} {K : PySem.W.Frag} {mg : Str → Option Value} {base : Heap}
/-! ### is_name, of any thing -/
def sp_isNameX (K : PySem.W.Frag) : Sp := fun vs H Q _ => ∃ (m : Int) (v : V) (o : Option Int), vs = [.int m, v] ∧ IsI K H v o ∧ Q (.bl (nameB m o)) H
theorem ok_isNameX {f f1 : Addr} {fd fd1 : FuncData} (F : Fun K "is_name" "is_name" s_isName f fd) (D1 : Df K mg "is_integer" s_isInt ["thing"] f1 fd1) (B : Bl mg) : FnOk P w K mg base CX0 2 f fd ["many", "thing"] (sp_isNameX K) := by
  have G1 : FnOk P w K mg base CX0 1 f1 fd1 ["thing"] (sp_isInt K) := ok_isInt D1.F B
  refine F.ok sc_isName (fun vs H Q E h => ?_) (fun cdv A outer s H vs Q E hr h => ?_)
  · obtain ⟨m, v, o, rfl, _⟩ := h
    rfl
  · obtain ⟨m, v, o, rfl, hi, q⟩ := h
    refine ⟨_, pss_one (ps_ret (pe_and (pe_call G1 hr rfl D1.g D1.F.kp D1.b .nil pass0 (pa_cons (pv 1) pa_nil)) (pe_one (pe_chain op_le op_lt (pe_int) (pv 1) (pv 0))))), ?_⟩
    cases hi with
    | int i =>
      refine ⟨_, rfl, _, _, _, _, rfl, .base (.int i), int_kit.1, int_kit.2, _, rfl, iteT ?_⟩
      refine ⟨_, rfl, _, _, rfl, rfl, _, rfl, ?_⟩
      have q : Q (.bl (decide (0 ≤ i) && decide (i < m))) H := q
      by_cases h0 : (0 : Int) ≤ i
      · rw [decide_eq_true h0] at q ⊢
        refine iteT ⟨_, rfl, _, _, rfl, rfl, ?_⟩
        exact q
      · rw [decide_eq_false h0] at q ⊢
        exact iteF q
    | oth ty k1 k2 e =>
      refine ⟨_, rfl, _, _, _, _, rfl, ty, k1, k2, _, rfl, ?_⟩
      rw [e]
      exact iteF q
/-! ### is_ascending, of any ints -/
def ltAt (ls : List Int) (i : Nat) : Bool := decide (ls.getD i 0 < ls.getD (i + 1) 0)
theorem up_of_steps {ls : List Int} (h : ∀ i, i + 1 < ls.length → ltAt ls i = true) : ls.Pairwise (· < ·) := by
  rw [List.pairwise_iff_getElem]
  have key : ∀ (d i : Nat) (h1 : i < ls.length) (h2 : i + d + 1 < ls.length), ls[i] < ls[i + d + 1] := by
    intro d
    induction d with
    | zero =>
      intro i h1 h2
      have := of_decide_eq_true (h i h2)
      rwa [List.getD_eq_getElem?_getD, List.getD_eq_getElem?_getD, List.getElem?_eq_getElem h1, List.getElem?_eq_getElem h2] at this
    | succ d ih =>
      intro i h1 h2
      have a := ih i h1 (by omega)
      have b := of_decide_eq_true (h (i + d + 1) (by omega))
      rw [List.getD_eq_getElem?_getD, List.getD_eq_getElem?_getD, List.getElem?_eq_getElem (show i + d + 1 < ls.length by omega), List.getElem?_eq_getElem (show i + d + 1 + 1 < ls.length by omega)] at b
      exact Int.lt_trans a b
  intro i j hi hj lt
  have := key (j - i - 1) i hi (by omega)
  have e : i + (j - i - 1) + 1 = j := by omega
  simpa only [e] using this
theorem steps_up {ls : List Int} (h : ls.Pairwise (· < ·)) {i : Nat} (h2 : i + 1 < ls.length) : ltAt ls i = true := by
  have := List.pairwise_iff_getElem.mp h i (i + 1) (by omega) h2 (by omega)
  unfold ltAt
  rw [List.getD_eq_getElem?_getD, List.getD_eq_getElem?_getD, List.getElem?_eq_getElem (show i < ls.length by omega), List.getElem?_eq_getElem h2]
  exact decide_eq_true this
theorem steps_all (ls : List Int) : ((List.range (ls.length - 1)).map (ltAt ls)).all id = decide (ls.Pairwise (· < ·)) := by
  by_cases h : ls.Pairwise (· < ·)
  · rw [decide_eq_true h, List.all_eq_true]
    intro b mb
    obtain ⟨i, mi, rfl⟩ := List.mem_map.mp mb
    have := List.mem_range.mp mi
    exact steps_up h (by omega)
  · rw [decide_eq_false h, Bool.eq_false_iff]
    intro e
    rw [List.all_eq_true] at e
    exact h (up_of_steps fun i hi => e _ (List.mem_map.mpr ⟨i, List.mem_range.mpr (by omega), rfl⟩))
def sp_ascG (K : PySem.W.Frag) : Sp := fun vs H Q _ => ∃ (a : Addr) (ls : List Int), vs = [.ref a] ∧ SqT K H a (ls.map V.int) ∧ ls.length ≤ 64 ∧ ∀ H', Same H H' → Q (.bl (decide (ls.Pairwise (· < ·)))) H'
theorem ok_ascG {f : Addr} {fd : FuncData} (F : Fun K "is_ascending" "is_ascending" s_isAsc f fd) (B : Bl mg) : FnOk P w K mg base CX0 1 f fd ["items"] (sp_ascG K) := by
  refine F.ok sc_isAsc (fun vs H Q E h => ?_) (fun cdv A outer s H vs Q E hr h => ?_)
  · obtain ⟨a, ks, rfl, _⟩ := h
    rfl
  · obtain ⟨a, ls, rfl, hT, hl, q⟩ := h
    refine ⟨_, pss_one (ps_ret (pe_callB (cr_all rfl) (by rfl) B.all (by decide +kernel) (pa_cons (pe_lc (own := [("at", 1)]) (te := tOp (rI0 fun i j => .bl (decide (i < j))) (tOp (rIxT K) (tVar 0) (tVar 1)) (tOp (rIxT K) (tVar 0) (tOp (rI0 fun i j => .int (i + j)) (tVar 1) (tC (.int 1))))) (by rfl) sc_isAsc.nd (pi_range1 (by rfl) B.range (pa_cons (pe_op op_sub (pe_callB call_len_seq (by rfl) B.len (by decide +kernel) (pa_cons (pv 0) pa_nil)) (pe_int)) pa_nil)) (blkOk_by (N := n_isAsc) (sc := defScope s_isAsc) (by decide +kernel)) (fun _ _ _ _ _ => pg_name (i := 1) sc_isAsc.nd rfl (Or.inl rfl)) (fun _ _ _ _ _ => pts_nil)
      (fun _ _ _ _ _ => by exact pe_cmpR op_lt (pe_ix ix_tup (pv 0) (pv 1) (fun _ _ => rfl)) (pe_ix ix_tup (pv 0) (pe_op op_add (pv 1) (pe_int)) (fun _ _ => rfl)) (nomark _))) pa_nil))), ?_⟩
    refine ⟨_, rfl, _, _, rfl, .inr hT, _, _, rfl, rfl, _, rfl, ?_, ?_, fun D nD => ?_⟩
    · rw [List.length_map]
      omega
    · rw [List.length_map]
      omega
    refine lc_range (lo := 0) (n := ((ls.map V.int).length - 1 : Int).toNat) (fun i H' => Same H H' ∧ H' D = some (.lst (((List.range i).map (ltAt ls)).map V.bl))) ?_ ?_ ?_
    · exact ⟨same_new nD, upd_same⟩
    · rintro i H1 hi ⟨sm, hD⟩
      rw [List.length_map] at hi
      have l1 : i < ls.length := by omega
      have l2 : i + 1 < ls.length := by omega
      have g1 : (ls.map V.int)[i]? = some (V.int ls[i]) := by rw [List.getElem?_map, List.getElem?_eq_getElem l1]; rfl
      have g2 : (ls.map V.int)[i + 1]? = some (V.int ls[i + 1]) := by rw [List.getElem?_map, List.getElem?_eq_getElem l2]; rfl
      have hT1 := sqT_same hT sm
      refine ⟨rfl, _, rfl, _, rfl, _, _, _, _, rfl, rfl, hT1, by rw [Int.zero_add]; exact atI_nat g1, ?_⟩
      refine ⟨_, rfl, _, rfl, _, _, rfl, rfl, _, _, _, _, rfl, rfl, hT1, by rw [show (0 : Int) + i + 1 = ((i + 1 : Nat) : Int) by omega]; exact atI_nat g2, ?_⟩
      refine ⟨_, _, rfl, rfl, _, hD, ?_, same_upd sm nD, ?_⟩
      · rw [List.length_map, List.length_map, List.length_range]
        exact small64 (by omega)
      · dsimp only
        rw [upd_same, List.range_succ, List.map_append, List.map_append]
        unfold ltAt
        rw [List.map_singleton, List.map_singleton, List.getD_eq_getElem?_getD, List.getD_eq_getElem?_getD, List.getElem?_eq_getElem l1, List.getElem?_eq_getElem l2]
        rfl
    · rintro H1 ⟨sm, hD⟩
      refine ⟨D, _, rfl, SqL.of hD, ?_⟩
      rw [List.length_map, show ((ls.length : Int) - 1).toNat = ls.length - 1 by omega, steps_all]
      exact q _ sm
end
end Ev

namespace Ev
open PySem PySem.Spec PyProof.Rows L2
section
variable {P : Program} {w : World} {K : PySem.W.Frag} {mg : Str → Option Value} {base : Heap}
/-- as Fun.okX, its exceptions' context told -/
theorem okXN {x qual : Str} {st : Stmt} {f : Addr} {fd : FuncData} {N ps : List Str} {k : Nat} {sp : Sp} (F : Fun K x qual st f fd) (S : FnScope N ps (defScope st)) (len : ∀ vs H Q E, sp vs H Q E → vs.length = ps.length)
    (hbody : ∀ (cdv : Value) (A : Around) (outer : List Env) (s : Shared) (H : Hp) (vs : List V) (Q : VK) (E : XK), Room k (A.deeper (envOfC qual (defScope st) s.heap.objs.size f cdv)) → sp vs H Q E →
      ∃ t, PSs (cxOf (L2N.CX P w) P w K mg base N qual (defScope st) f cdv A outer s H E) (defBody st) t ∧ t { nx := fun _ H' => Q .non H', rt := Q } (start N vs) H) : FnOk P w K mg base (L2N.CX P w) (k + 1) f fd ps sp := by
  obtain ⟨oc, od, kV, doc, pm, an, cdv, ct, osl, rfl, lk, hcd⟩ := F.ex
  exact fn_of lk hcd S len fun A outer s H vs Q E hr hsp => hbody cdv A outer s H vs Q E hr hsp
end
section
variable {X : Cx} {C : Addr}
theorem pmk_own0N {x : Str} {p pos : Pos} (T : ErrC X.K X.mg x C) (hg : Gl X x) (hdb : (x == ("__debug__" : Str)) = false := by decide) : L2N.PMk X (.Call (.Name x p) [] [] pos) (fun _ H Q => Q (.ref C) none H) := by
  intro pins s σ H Q I h
  refine wpAny_Call_Name_kw (ld_glob I hg T.g ?_ hdb)
  refine PySem.W.callWith_K0 I.kIn T.k ?_
  obtain ⟨bm, N, nm, qn, bs, hdct, sn, sub, ab, col, dd, k0, k1, k2, k3, k5, mN, hC, hN, hni, tl⟩ := exc_obj I.kIn T.x
  obtain ⟨hp1, g1, d1, tk1, os1⟩ := s
  show wpAny _ _ (call (.ref C) []) _ _ _
  refine wpAny_call_exc_subT PySem.F.excBase_ValueError tl hC hN hni (fun h' e hm => ?_) (Nat.zero_le _)
  exact L2N.mk_of I hm (raises_own T.b T.t) h (I.hok.gone hm.new)
theorem ps_raise0N {x : Str} {W : WX} {p pos pos2 : Pos} (hc : X.calm = true) (T : ErrC X.K X.mg x C) (tk : L2N.Takes X W) (hg : Gl X x) (hdb : (x == ("__debug__" : Str)) = false := by decide) : PS X (.Raise (some (.Call (.Name x p) [] [] pos)) none pos2) (fun _ σ H => W (.ref C) none σ H) :=
  L2N.ps_raise hc tk (pmk_own0N T hg hdb)
/-- around a body nothing is let out -/
theorem takes0N {X : Cx} : L2N.Takes X (fun _ _ _ _ => False) := fun _ _ x => by
  obtain ⟨_, _, _, _, _, _, _, _, _, _, _, _, _, _, _, _, z⟩ := x
  exact z.elim
theorem hot_suite {a : Addr} {oe : Obj} {cls : Value} {d : Option Addr} {pn : List (Addr × Obj)} (hz : L2N.Zn cls d oe) (hf : ∃ vs, oe.data = .fields vs) : L2H.HotC (X.suite a ((a, oe) :: pn)) := by
  obtain ⟨vs, hv⟩ := hf
  exact ⟨(a, oe), ⟨rfl, vs, hv, hz.2.2 vs hv⟩, List.mem_cons_self⟩
end
/-! ### a comprehension in an except suite -/
/-- the context of a block there: the exception that is handled stays in sight -/
abbrev blkH (X : Cx) (s : Shared) (H : Hp) (scope : Scope) (cenv : Env) (fp : List Addr) : Cx := { X.blk s H scope cenv fp with pn := X.pn }
section
variable {X : Cx}
theorem inv_blkH {s : Shared} {H : Hp} {scope : Scope} {ce : Env} {fp : List Addr} {σ : L2.St} {H' : Hp} {s' : Shared} (I : Inv (X.blk s H scope ce fp) [] σ H' s') (hp : ∀ p ∈ X.pn, s'.heap.get? p.1 = some p.2 ∧ H' p.1 = none ∧ p.1 ≠ ce.locals ∧ p.1 ∉ frs X.stack ∧ ∀ v, p.2.data ≠ .cell v) : Inv (blkH X s H scope ce fp) [] σ H' s' := by
  have ok : (blkH X s H scope ce fp).Ok := ⟨I.ok.mod, I.ok.kind, I.ok.glob, I.ok.blt, I.ok.above, I.ok.inj, I.ok.has, I.ok.cab, I.ok.hd, I.ok.frames, I.ok.stk, I.ok.exf, I.ok.bs, I.ok.bsz, I.ok.noex, I.ok.exfs, I.ok.funs, I.ok.frf⟩
  refine ⟨ok, I.os, I.bare, I.base, I.loc, I.cell, I.free, I.freeC, fun p mp => ?_, I.hok, I.len⟩
  exact hp p (by simpa using mp)
theorem lc_coreH {pins : List (Addr × Obj)} {s : Shared} {σ : L2.St} {H : Hp} {Q : VK} {elt tg iter : Expr} {ifs : List Expr} {scope : Scope} {own : List (Str × Nat)} {pos pos' : Pos} {wi : TI} {g : TG} {tt : TT} {te : TE} {use : Option (Value → Sem Unit)} {Qf : Value → Shared → Prop}
    (hc : L2H.HotC X) (hN : X.N.Nodup) (I : Inv X pins σ H s) (hi : L2H.PIH X tg iter wi) (ok : BlkOk X.N X.env.scope scope own)
    (hg : ∀ (s : Shared) (H : Hp) (C : Addr) (cl : List (Str × Addr)) (fp : List Addr), PG (blkH X s H scope (compEnvC scope cl C X.env) fp) tg g) (ht : ∀ (s : Shared) (H : Hp) (C : Addr) (cl : List (Str × Addr)) (fp : List Addr), PTs (blkH X s H scope (compEnvC scope cl C X.env) fp) ifs tt)
    (he : ∀ (s : Shared) (H : Hp) (C : Addr) (cl : List (Str × Addr)) (fp : List Addr), PE (blkH X s H scope (compEnvC scope cl C X.env) fp) elt te) (hs : ∀ x, foldedSetIterable iter X.env x = pure x)
    (h : tLc wi g tt te (own.map (·.2)) σ H Q)
    (hRR : ∀ D C s' m H', Inv X pins σ H' s' → Q (.ref D) H' → s'.heap.Ns C m → FpOk X pins H' C → compPost (model X.prog X.w) X.A X.xe use Qf (.ref D) C (.ok .next) s') :
    wpAny (model X.prog X.w) X.A (comprehension (.ListComp elt [⟨tg, iter, ifs, 0⟩] scope pos) scope X.env pos' (newList []) false (eval iter X.env) use) Qf X.xe s := by
  have hfree : ∀ y ∈ scope.names, y.2 = .free → ∃ c, X.env.cells.lookup y.1 = some c := fun y hy e => by
    rcases ok.free y hy e with k | k
    · exact I.ok.has _ (.inl k)
    · exact I.ok.has _ (.inr k)
  refine wpAny_comprehension_free (use := use) rfl hs (closure_ok hfree) ok.kind (fun y hy e => by rw [ok.uniq y hy, e])
    (thn (hi.run pins s σ H _ I h) fun xv s1 hx => thn hx fun itv s2 h2 => ?_)
  obtain ⟨it, fp, tn, J, H2, e, I2, T, st2, f2, q⟩ := h2
  subst e
  refine wpAny_newObj_type (newEnv_comp ?_) (by show 0 ≤ sizeLine; decide)
  generalize hD : s2.heap.objs.size = D
  have hDn : H2 D = none := I2.hok.fresh (Nat.le_of_eq hD)
  obtain ⟨W, ⟨m0, w0⟩, turn⟩ := q D hDn
  -- the new list
  generalize hs3 : ({ s2 with heap := s2.heap.push { cls := .type "list", data := .seq ([] : List Value).toArray } } : Shared) = s3
  have I3 : Inv X pins σ (upd H2 D (.lst [])) s3 := by
    rw [← hs3]
    refine I2.laid (t' := s2.toks) (fun b o e => Heap.get?_push_of_some _ e) (Nat.le_of_eq hD) ⟨Nat.zero_le _, [], 0, .nil, ?_⟩
    rw [← hD]
    exact Heap.get?_push_size _ rfl
  have h3 : s3.heap = s2.heap.push { cls := .type "list", data := .seq ([] : List Value).toArray } := by rw [← hs3]
  have sz : ∀ b ∈ fp, b < s2.heap.objs.size := fun b hb => by
    obtain ⟨o, e, _⟩ := T.obj _ _ st2 b hb
    exact Heap.lt_size e
  have f3 : ∀ b ∈ fp, FpOk X pins (upd H2 D (.lst [])) b ∧ b < s3.heap.objs.size := fun b hb => by
    have hlt := sz b hb
    refine ⟨⟨?_, (f2 b hb).2⟩, by rw [h3, Heap.size_push]; exact Nat.lt_succ_of_lt hlt⟩
    rw [upd_ne (by rw [← hD]; exact Nat.ne_of_lt hlt)]
    exact (f2 b hb).1
  have st3 : tn 0 s3.heap := T.keep _ _ _ st2 fun b _ o e => by rw [h3]; exact Heap.get?_push_of_some _ e
  have I4 := inv_blkH (block_start I3 ok hN f3) fun p mp => by
    obtain ⟨p1, p2, p3, p4, p5⟩ := I3.pin p (List.mem_append_left _ mp)
    refine ⟨pushCells_keeps _ _ _ _ (Heap.get?_push_of_some _ p1), p2, Nat.ne_of_lt (Heap.lt_size p1), fun z => ?_, p5⟩
    rcases List.mem_cons.mp (I3.stkSub p.1 z) with z | z
    · exact p3 z
    · exact p4 z
  have pg := hg s3 (upd H2 D (.lst [])) s3.heap.objs.size (cellsFrom (s3.heap.objs.size + 1) scope.names (cloFrom X.env.cells scope.names [])) fp
  have pt := ht s3 (upd H2 D (.lst [])) s3.heap.objs.size (cellsFrom (s3.heap.objs.size + 1) scope.names (cloFrom X.env.cells scope.names [])) fp
  have pe := he s3 (upd H2 D (.lst [])) s3.heap.objs.size (cellsFrom (s3.heap.objs.size + 1) scope.names (cloFrom X.env.cells scope.names [])) fp
  show codeAny _ _ (.compStart (.ListComp elt [⟨tg, iter, ifs, 0⟩] scope pos) 0 (.ref it) (.ref D) (compEnvC scope (cellsFrom (s3.heap.objs.size + 1) scope.names (cloFrom X.env.cells scope.names [])) s3.heap.objs.size X.env)) (compPost (model X.prog X.w) X.A X.xe use Qf (.ref D) s3.heap.objs.size) { s3 with heap := pushCells (s3.heap.push { cls := .type "dict", data := .dict #[] }) scope.names }
  have nfp : ∀ b ∈ fp, (upd H2 D (.lst [])) b = none := fun b hb => (f3 b hb).1.1
  generalize hce : compEnvC scope (cellsFrom (s3.heap.objs.size + 1) scope.names (cloFrom X.env.cells scope.names [])) s3.heap.objs.size X.env = ce at I4 pg pt pe ⊢
  have cL : ce.locals = s3.heap.objs.size := by subst hce; rfl
  generalize hH3 : upd H2 D (.lst []) = H3 at I3 I4 pg pt pe w0 nfp f3
  generalize hs4 : ({ s3 with heap := pushCells (s3.heap.push { cls := .type "dict", data := .dict #[] }) scope.names } : Shared) = s4 at I4 ⊢
  have st4 : tn 0 s4.heap := T.keep _ _ _ st3 fun b _ o e => by rw [← hs4]; exact pushCells_keeps _ _ _ _ (Heap.get?_push_of_some _ e)
  have stat : ∀ {σ' : L2.St} {H' : Hp} {s' : Shared}, Inv (blkH X s3 H3 scope ce fp) [] σ' H' s' → (∀ b ∈ fp, H' b = none) → ∀ b ∈ fp, FpOk (blkH X s3 H3 scope ce fp) [] H' b := fun {σ' H' s'} I' hn b hb =>
    ⟨hn b hb, (I'.ok.exf b hb).1, I'.ok.exfs b hb, .inl hb, fun x c e => (I'.ok.exf b hb).2 x c e, fun p hp => (f3 b hb).1.2.2.2.2.2 p (List.mem_append_left _ (by simpa using hp))⟩
  have loop : codeAny (model X.prog X.w) X.A (.compLoop (.ListComp elt [⟨tg, iter, ifs, 0⟩] scope pos) 0 (.ref it) (.ref D) ce) (compPost (model X.prog X.w) X.A X.xe use Qf (.ref D) s3.heap.objs.size) s4 := by
    refine compLoop_any (fun n s' => ∃ i H', Inv (blkH X s3 H3 scope ce fp) [] (wipe σ (own.map (·.2))) H' s' ∧ tn i s'.heap ∧ (∀ b ∈ fp, H' b = none) ∧ W i n H') ?_ m0 ⟨0, H3, I4, st4, nfp, w0⟩
    rintro n s5 ⟨i, H5, I5, st5, n5, w5⟩
    rcases turn i n H5 w5 with ⟨stop, qq⟩ | ⟨go, Nx, hNx, step⟩
    · have td := T.done (blkH X s3 H3 scope ce fp) rfl rfl rfl hc i [] s5 _ H5 (fun _ _ => False) I5 (stat I5 n5) st5 stop
      refine thnF td fun r s6 ⟨hr, I6⟩ => ?_
      subst hr
      -- back in the def's context
      have I7 : Inv X pins σ H5 s6 := I3.call' (ch := fp) I6.os I6.base I6.hok I6.bare fun b hb => ⟨(f3 b hb).1.2.2.2.1, (f3 b hb).1.2.1, (f3 b hb).1.2.2.2.2.1, (f3 b hb).1.2.2.2.2.2⟩
      have nC : H5 s3.heap.objs.size = none := by
        have z : H5 ce.locals = none := I6.free
        rw [cL] at z
        exact z
      obtain ⟨m, hn, _⟩ := I6.loc
      have hn : s6.heap.Ns ce.locals m := hn
      rw [cL] at hn
      exact hRR D s3.heap.objs.size s6 m H5 I7 qq hn (I3.fpOk (Nat.le_refl _) nC)
    · have ti := T.item (blkH X s3 H3 scope ce fp) rfl rfl rfl hc i [] s5 _ H5 (fun _ _ => False) I5 (stat I5 n5) st5 go
      refine thnF ti fun r s6 ⟨u, hr, h6⟩ => ?_
      subst hr
      refine thnF h6 fun _ s7 ⟨x, H7, I7, r7, y7, st7, n7⟩ => ?_
      have I7' := I7.pinned (stat I7 n7) (T.obj _ _ st7)
      refine thnF (pg.run _ s7 _ H7 x u _ I7' r7 (step x H7 y7)) fun _ s8 ⟨σ8, H8, I8, hw8, q8⟩ => ?_
      refine thnF (pt.run _ s8 σ8 H8 _ I8 q8) fun b s9 ⟨H9, I9, q9⟩ => ?_
      -- the turn's end
      have fin : ∀ {s' : Shared} {H' : Hp}, Inv (blkH X s3 H3 scope ce fp) ([] ++ pinsAt fp s7.heap) σ8 H' s' → Nx H' → ∃ m, m < n ∧ ∃ i H', Inv (blkH X s3 H3 scope ce fp) [] (wipe σ (own.map (·.2))) H' s' ∧ tn i s'.heap ∧ (∀ b ∈ fp, H' b = none) ∧ W i m H' := fun {s' H'} I' nx => by
        obtain ⟨m', hm, w'⟩ := hNx H' nx
        have pin' : ∀ b ∈ fp, ∀ o, s7.heap.get? b = some o → s'.heap.get? b = some o ∧ H' b = none := fun b hb o e =>
          let z := I'.pin (b, o) (List.mem_append_right _ (List.mem_append_right _ (mem_pinsAt hb e)))
          ⟨z.1, z.2.1⟩
        have hl : (wipe σ (own.map (·.2))).length = σ8.length := by rw [← hw8, wipe_length]
        refine ⟨m', hm, i + 1, H', (I'.unpinned (pins := [])).weak hl (fun j v e => ?_), T.keep _ _ _ st7 fun b hb o e => (pin' b hb o e).1, fun b hb => ?_, w'⟩
        · rw [← hw8] at e
          exact (wipe_some e).1
        · obtain ⟨o, e, _⟩ := T.obj _ _ st7 b hb
          exact (pin' b hb o e).2
      cases b with
      | false =>
        simp only [Bool.false_eq_true, if_false] at q9 ⊢
        exact fin I9 q9
      | true =>
        simp only [if_true] at q9 ⊢
        refine thnF (pe.run _ s9 σ8 H9 _ I9 q9) fun z s10 ⟨yv, H10, I10, r10, acc, hD10, hz10, nx⟩ => ?_
        exact app_ok (X := blkH X s3 H3 scope ce fp) I10 hD10 hz10 r10 fun s11 I11 => fin I11 nx
  exact codeAny_compStart_list loop (T.self X.A 0 _ _ _ st4 loop)
/-- as a value, in an except suite -/
theorem pe_lcH {elt tg iter : Expr} {ifs : List Expr} {scope : Scope} {own : List (Str × Nat)} {pos : Pos} {wi : TI} {g : TG} {tt : TT} {te : TE} (hc : L2H.HotC X) (hN : X.N.Nodup) (hi : L2H.PIH X tg iter wi) (ok : BlkOk X.N X.env.scope scope own)
    (hg : ∀ (s : Shared) (H : Hp) (C : Addr) (cl : List (Str × Addr)) (fp : List Addr), PG (blkH X s H scope (compEnvC scope cl C X.env) fp) tg g) (ht : ∀ (s : Shared) (H : Hp) (C : Addr) (cl : List (Str × Addr)) (fp : List Addr), PTs (blkH X s H scope (compEnvC scope cl C X.env) fp) ifs tt)
    (he : ∀ (s : Shared) (H : Hp) (C : Addr) (cl : List (Str × Addr)) (fp : List Addr), PE (blkH X s H scope (compEnvC scope cl C X.env) fp) elt te) (hs : ∀ x, foldedSetIterable iter X.env x = pure x := by intro _; rfl) :
    PE X (.ListComp elt [⟨tg, iter, ifs, 0⟩] scope pos) (tLc wi g tt te (own.map (·.2))) := by
  refine ⟨fun pins s σ H Q I h => ?_⟩
  rw [eval_ListComp]
  refine lc_coreH hc hN I hi ok hg ht he hs h fun D C s' m H' I' q hn f => ⟨m, hn, fun h'' sb => ?_⟩
  obtain ⟨f0, f1, f2, f3, f4, f5⟩ := f
  exact ⟨.ref D, H', I'.turned (t' := s'.toks) (fun b o hb e => (sb.2 b hb).trans e) f0 f1 f3 f4 f5, rfl, q⟩
end
end Ev

namespace Ev
open PySem L2
open C8 (pss_cut tCut InsC)
section
variable {P : Program} {w : World} {K : PySem.W.Frag} {mg : Str → Option Value} {base : Heap}
/-! ### place_share -/
def sp_place (K : PySem.W.Frag) (C CN CP : Addr) : Sp := fun vs H Q E => ∃ (x : Addr) (v1 v2 : V) (m : Nat) (js : Kp) (o1 o2 : Option Int), vs = [.ref x, v1, v2] ∧ WebAt K C H x m js ∧ 1 ≤ m ∧ m ≤ 8 ∧ RowsOk m (kp js) ∧ IsI K H v1 o1 ∧ IsI K H v2 o2 ∧
  (nameB m o1 = false → E (.ref CN) none H) ∧ (nameB m o1 = true → nameB m o2 = false → E (.ref CP) none H) ∧
  (∀ k p : Nat, o1 = some (k : Int) → o2 = some (p : Int) → k < m → p < m → ∀ H' z, Same H H' → H z = none → H' z = some (.tup [.int (frN (placeN m (kp js) k p) (ordersL m (kp js)).length).1, .int (frN (placeN m (kp js) k p) (ordersL m (kp js)).length).2]) → Q (.ref z) H')
abbrev s_place : Stmt := topS 30 -- @place_share
abbrev n_place : List Str := ["web", "name", "place", "numbers"]
theorem sc_place : FnScope n_place ["web", "name", "place"] (defScope s_place) := ⟨rfl, rfl, rfl, by decide +kernel, rfl, by decide +kernel, by decide +kernel⟩
theorem ok_place {f C CN CP fI fE f1 f2 f3 f4 : Addr} {fd fd1 fd2 fd3 fd4 : FuncData} (F : Fun K "place_share" "place_share" s_place f fd) (W : WebC K mg C fI fE) (EN : ErrC K mg "NoName" CN) (EP : ErrC K mg "NoPlace" CP)
    (D1 : Df K mg "is_name" s_isName ["many", "thing"] f1 fd1) (D2 : Df K mg "is_integer" s_isInt ["thing"] f2 fd2) (D3 : Df K mg "_orders_by_place" s_byPlace ["web", "name"] f3 fd3) (G3 : FnOk P w K mg base CX0 6 f3 fd3 ["web", "name"] (sp_byPlace K C))
    (D4 : Df K mg "fraction" s_frac ["top", "bottom"] f4 fd4) (G4 : FnOk P w K mg base CX0 1 f4 fd4 ["top", "bottom"] (sp_frac K)) (B : Bl mg) : FnOk P w K mg base (L2N.CX P w) 7 f fd ["web", "name", "place"] (sp_place K C CN CP) := by
  have G1 : FnOk P w K mg base CX0 2 f1 fd1 ["many", "thing"] (sp_isNameX K) := ok_isNameX D1.F D2 B
  refine okXN F sc_place (fun vs H Q E h => ?_) (fun cdv A outer s H vs Q E hr h => ?_)
  · obtain ⟨x, v1, v2, m, js, o1, o2, rfl, _⟩ := h
    rfl
  · obtain ⟨x, v1, v2, m, js, o1, o2, rfl, wa, m1, m8, ro, i1, i2, qN, qP, q⟩ := h
    have hr2 : Room 2 _ := hr.mono (by decide)
    have hr1 : Room 1 _ := hr.mono (by decide)
    refine ⟨_, pss_cons (ps_if (pt_not (pt_val (pe_call G1 hr2 rfl D1.g D1.F.kp D1.b .nil pass0 (pa_cons (pe_fld (pv 0) rfl) (pa_cons (pv 1) pa_nil)))))
        (pss_one (ps_raise0N rfl EN (L2N.takes_of rfl rfl rfl rfl) rfl))
        (pss_nil))
      (pss_cons (ps_if (pt_not (pt_val (pe_call G1 hr2 rfl D1.g D1.F.kp D1.b .nil pass0 (pa_cons (pe_fld (pv 0) rfl) (pa_cons (pv 2) pa_nil)))))
        (pss_one (ps_raise0N rfl EP (L2N.takes_of rfl rfl rfl rfl) rfl))
        (pss_nil))
      (pss_cons (ps_set (i := 3) sc_place.nd rfl (Or.inl rfl) (pe_call G3 hr rfl D3.g D3.F.kp D3.b .nil pass0 (pa_cons (pv 0) (pa_cons (pv 1) pa_nil))))
      (pss_one (ps_ret (pe_call G4 hr1 rfl D4.g D4.F.kp D4.b .nil pass0 (pa_cons (pe_ix ix_list (pv 3) (pv 2) (fun _ _ => rfl)) (pa_cons (pe_callB (cr_sum rfl) (by rfl) B.sum (by decide +kernel) (pa_cons (pv 3) pa_nil)) pa_nil))))))), ?_⟩
    obtain ⟨dx, z, hx, hz⟩ := wa.ob
    refine ⟨_, rfl, x, C, dx, _, _, rfl, hx, W.ins.cl, W.nM, webF_many _ _, _, rfl, (m : Int), v1, o1, rfl, i1, _, rfl, ?_⟩
    cases h1 : nameB m o1 with
    | false => exact iteT (qN h1)
    | true =>
      refine iteF ?_
      refine ⟨_, rfl, x, C, dx, _, _, rfl, hx, W.ins.cl, W.nM, webF_many _ _, _, rfl, (m : Int), v2, o2, rfl, i2, _, rfl, ?_⟩
      cases h2 : nameB m o2 with
      | false => exact iteT (qP h1 h2)
      | true =>
        refine iteF ?_
        obtain ⟨k, rfl, hk⟩ := name_of h1
        obtain ⟨p, rfl, hp⟩ := name_of h2
        have e1 := int_of i1
        have e2 := int_of i2
        subst e1
        subst e2
        refine ⟨_, rfl, _, rfl, x, m, js, k, rfl, wa, m8, ro.bd, ro.ok, hk, fun H1 nl sm1 nnl hnl => ?_⟩
        have g : (nv (placesN m (kp js) k))[p]? = some (V.int ((placeN m (kp js) k p : Nat) : Int)) := by
          refine nv_get ?_
          unfold placesN
          rw [List.getElem?_map, List.getElem?_range hp]
          rfl
        have tot := place_total ro.bd hk
        have pos := orders_pos ro
        have le := orders_fct (m := m) (ps := kp js)
        have f8 := fct_le8 m8
        refine ⟨_, rfl, _, rfl, nl, _, _, _, rfl, rfl, SqL.of hnl, atI_nat g, ?_⟩
        rw [nv_ints] at hnl
        refine ⟨_, rfl, nl, _, rfl, SqL.of hnl, ?_⟩
        rw [sum_nat, tot]
        refine ⟨_, _, rfl, pos, by omega, fun H2 z2 sm2 nz2 hz2 => ?_⟩
        exact q k p rfl rfl hk hp H2 z2 (sm1.trans sm2) (none_of sm1 nz2) hz2
end
end Ev

namespace Ev
open PySem L2
open C8 (pss_cut tCut InsC)
section
variable {P : Program} {w : World} {K : PySem.W.Frag} {mg : Str → Option Value} {base : Heap}
/-! ### mean_place -/
def sp_mean (K : PySem.W.Frag) (C CN : Addr) : Sp := fun vs H Q E => ∃ (x : Addr) (v1 : V) (m : Nat) (js : Kp) (o1 : Option Int), vs = [.ref x, v1] ∧ WebAt K C H x m js ∧ 1 ≤ m ∧ m ≤ 8 ∧ RowsOk m (kp js) ∧ IsI K H v1 o1 ∧
  (nameB m o1 = false → E (.ref CN) none H) ∧
  (∀ k : Nat, o1 = some (k : Int) → k < m → ∀ H' z, Same H H' → H z = none → H' z = some (.tup [.int (frN (meanN m (kp js) k) (ordersL m (kp js)).length).1, .int (frN (meanN m (kp js) k) (ordersL m (kp js)).length).2]) → Q (.ref z) H')
abbrev s_mean : Stmt := topS 33 -- @mean_place
abbrev n_mean : List Str := ["web", "name", "numbers", "place"]
theorem sc_mean : FnScope n_mean ["web", "name"] (defScope s_mean) := ⟨rfl, rfl, rfl, by decide +kernel, rfl, by decide +kernel, by decide +kernel⟩
theorem ok_mean {f C CN fI fE f1 f2 f3 f4 : Addr} {fd fd1 fd2 fd3 fd4 : FuncData} (F : Fun K "mean_place" "mean_place" s_mean f fd) (W : WebC K mg C fI fE) (EN : ErrC K mg "NoName" CN)
    (D1 : Df K mg "is_name" s_isName ["many", "thing"] f1 fd1) (D2 : Df K mg "is_integer" s_isInt ["thing"] f2 fd2) (D3 : Df K mg "_orders_by_place" s_byPlace ["web", "name"] f3 fd3) (G3 : FnOk P w K mg base CX0 6 f3 fd3 ["web", "name"] (sp_byPlace K C))
    (D4 : Df K mg "fraction" s_frac ["top", "bottom"] f4 fd4) (G4 : FnOk P w K mg base CX0 1 f4 fd4 ["top", "bottom"] (sp_frac K)) (B : Bl mg) : FnOk P w K mg base (L2N.CX P w) 7 f fd ["web", "name"] (sp_mean K C CN) := by
  have G1 : FnOk P w K mg base CX0 2 f1 fd1 ["many", "thing"] (sp_isNameX K) := ok_isNameX D1.F D2 B
  refine okXN F sc_mean (fun vs H Q E h => ?_) (fun cdv A outer s H vs Q E hr h => ?_)
  · obtain ⟨x, v1, m, js, o1, rfl, _⟩ := h
    rfl
  · obtain ⟨x, v1, m, js, o1, rfl, wa, m1, m8, ro, i1, qN, q⟩ := h
    have hr2 : Room 2 _ := hr.mono (by decide)
    have hr1 : Room 1 _ := hr.mono (by decide)
    refine ⟨_, pss_cons (ps_if (pt_not (pt_val (pe_call G1 hr2 rfl D1.g D1.F.kp D1.b .nil pass0 (pa_cons (pe_fld (pv 0) rfl) (pa_cons (pv 1) pa_nil)))))
        (pss_one (ps_raise0N rfl EN (L2N.takes_of rfl rfl rfl rfl) rfl))
        (pss_nil))
      (PSs.nox (pss_cons (ps_set (i := 2) sc_mean.nd rfl (Or.inr rfl) (pe_call G3 hr rfl D3.g D3.F.kp D3.b .nil pass0 (pa_cons (pv 0) (pa_cons (pv 1) pa_nil))))
      (pss_one (ps_ret (pe_call G4 hr1 rfl D4.g D4.F.kp D4.b .nil pass0 (pa_cons (pe_callB (cr_sum rfl) (by rfl) B.sum (by decide +kernel) (pa_cons (pe_lc (own := [("place", 3)]) (g := (gName 3)) (tt := tYes) (te := (tOp (rI CMul fun i j => .int (i * j)) (tVar 3) (tOp (rIxL K) (tVar 2) (tVar 3)))) (by rfl) sc_mean.nd (pi_range1 (by rfl) B.range (pa_cons (pe_fld (pv 0) rfl) pa_nil)) (blkOk_by (N := n_mean) (sc := defScope s_mean) (by decide +kernel)) (fun _ _ _ _ _ => by exact pg_name (i := 3) sc_mean.nd rfl (Or.inl rfl)) (fun _ _ _ _ _ => by exact pts_nil) (fun _ _ _ _ _ => by exact pe_op op_mul (pv 3) (pe_ix ix_list (pv 2) (pv 3) (fun _ _ => rfl)))) pa_nil)) (pa_cons (pe_callB (cr_sum rfl) (by rfl) B.sum (by decide +kernel) (pa_cons (pv 2) pa_nil)) pa_nil))))))), ?_⟩
    obtain ⟨dx, z, hx, hz⟩ := wa.ob
    refine ⟨_, rfl, x, C, dx, _, _, rfl, hx, W.ins.cl, W.nM, webF_many _ _, _, rfl, (m : Int), v1, o1, rfl, i1, _, rfl, ?_⟩
    cases h1 : nameB m o1 with
    | false => exact iteT (qN h1)
    | true =>
      refine iteF ?_
      obtain ⟨k, rfl, hk⟩ := name_of h1
      have e1 := int_of i1
      subst e1
      refine ⟨_, rfl, _, rfl, x, m, js, k, rfl, wa, m8, ro.bd, ro.ok, hk, fun H1 nl sm1 nnl hnl => ?_⟩
      have tot := place_total ro.bd hk
      have pos := orders_pos ro
      have le := orders_fct (m := m) (ps := kp js)
      have f8 := fct_le8 m8
      refine ⟨_, rfl, x, C, dx, _, _, rfl, sm1 _ _ hx, W.ins.cl, W.nM, webF_many _ _, (m : Int), rfl, by omega, by omega, fun D nD => ?_⟩
      refine lc_range (lo := 0) (n := (m : Int).toNat) (fun i H' => Same H1 H' ∧ H' D = some (.lst ((((List.range i).map fun p => p * placeN m (kp js) k p).map fun n : Nat => (n : Int)).map V.int))) ?_ ?_ ?_
      · exact ⟨same_new nD, upd_same⟩
      · rintro i H2 hi ⟨sm2, hD⟩
        have hi : i < m := by omega
        have ei : (0 : Int) + (i : Int) = (i : Int) := Int.zero_add _
        have g : (nv (placesN m (kp js) k))[i]? = some (V.int ((placeN m (kp js) k i : Nat) : Int)) := by
          refine nv_get ?_
          unfold placesN
          rw [List.getElem?_map, List.getElem?_range hi]
          rfl
        refine ⟨rfl, _, rfl, _, rfl, _, rfl, nl, _, _, _, rfl, rfl, SqL.of (sm2 _ _ hnl), by rw [ei]; exact atI_nat g, _, _, rfl, rfl, .inl ⟨by omega, by omega⟩, ?_⟩
        refine ⟨_, hD, ?_, same_upd sm2 nD, ?_⟩
        · rw [List.length_map, List.length_map, List.length_map, List.length_range]
          exact small64 (by omega)
        · dsimp only
          rw [upd_same, List.range_succ, List.map_append, List.map_append, List.map_append, ei]
          rfl
      rintro H2 ⟨sm2, hD⟩
      rw [show (m : Int).toNat = m by omega] at hD
      refine ⟨D, _, rfl, SqL.of hD, ?_⟩
      have hnl2 := sm2 _ _ hnl
      rw [nv_ints] at hnl2
      rw [sum_nat]
      refine ⟨_, rfl, nl, _, rfl, SqL.of hnl2, ?_⟩
      rw [sum_nat, tot]
      refine ⟨_, _, rfl, pos, by omega, fun H3 z2 sm3 nz2 hz2 => ?_⟩
      exact q k rfl hk H3 z2 (sm1.trans (sm2.trans sm3)) (none_of sm1 (none_of sm2 nz2)) hz2
end
end Ev

namespace Ev
open PySem L2
open C8 (pss_cut tCut InsC)
section
variable {P : Program} {w : World} {K : PySem.W.Frag} {mg : Str → Option Value} {base : Heap}
/-! ### shares come to one -/
def sp_sums (K : PySem.W.Frag) (C : Addr) : Sp := fun vs H Q _ => ∃ (x : Addr) (m : Nat) (js : Kp), vs = [.ref x, .int (m : Int)] ∧ WebAt K C H x m js ∧ 1 ≤ m ∧ m ≤ 8 ∧ RowsOk m (kp js) ∧ ∀ H', Same H H' → Q (.bl true) H'
abbrev s_sums : Stmt := topS 44 -- @_law_sums
abbrev n_sums : List Str := ["web", "many", "one", "by_name", "by_place", "mean", "other"]
theorem sc_sums : FnScope n_sums ["web", "many"] (defScope s_sums) := ⟨rfl, rfl, rfl, by decide +kernel, rfl, by decide +kernel, by decide +kernel⟩
theorem ok_sums {f C CN CP fP fM fU fX : Addr} {fd fdP fdM fdU fdX : FuncData} (F : Fun K "_law_sums" "_law_sums" s_sums f fd)
    (DP : Df K mg "place_share" s_place ["web", "name", "place"] fP fdP) (GP : FnOk P w K mg base (L2N.CX P w) 7 fP fdP ["web", "name", "place"] (sp_place K C CN CP)) (DM : Df K mg "mean_place" s_mean ["web", "name"] fM fdM) (GM : FnOk P w K mg base (L2N.CX P w) 7 fM fdM ["web", "name"] (sp_mean K C CN))
    (DU : Df K mg "_law_plus" s_plus ["one", "other"] fU fdU) (GU : FnOk P w K mg base CX0 2 fU fdU ["one", "other"] (sp_plus K)) (DX : Df K mg "_law_times" s_times ["one", "other"] fX fdX) (GX : FnOk P w K mg base CX0 2 fX fdX ["one", "other"] (sp_times K)) (B : Bl mg) :
    FnOk P w K mg base CX0 8 f fd ["web", "many"] (sp_sums K C) := by
  refine F.ok sc_sums (fun vs H Q E h => ?_) (fun cdv A outer s H vs Q E hr h => ?_)
  · obtain ⟨x, m, js, rfl, _⟩ := h
    rfl
  · obtain ⟨x, m, js, rfl, wa, m1, m8, ro, q⟩ := h
    have hr2 : Room 2 _ := hr.mono (by decide)
    refine ⟨_, pss_cut (ps_for PassesOwn.never rfl (pi_range1 (by rfl) B.range (pa_cons (pv 1) pa_nil)) (pg_name (i := 2) sc_sums.nd rfl (Or.inl rfl))
        (pss_cons (ps_set (i := 3) sc_sums.nd rfl (Or.inl rfl) (pe_tup (pa_cons (pe_int) (pa_cons (pe_int) pa_nil))))
        (pss_cons (ps_set (i := 4) sc_sums.nd rfl (Or.inl rfl) (pe_tup (pa_cons (pe_int) (pa_cons (pe_int) pa_nil))))
        (pss_cons (ps_set (i := 5) sc_sums.nd rfl (Or.inl rfl) (pe_tup (pa_cons (pe_int) (pa_cons (pe_int) pa_nil))))
        (pss_cut (ps_for PassesOwn.never rfl (pi_range1 (by rfl) B.range (pa_cons (pv 1) pa_nil)) (pg_name (i := 6) sc_sums.nd rfl (Or.inl rfl))
          (pss_cons (ps_set (i := 3) sc_sums.nd rfl (Or.inl rfl) (pe_call GU hr2 rfl DU.g DU.F.kp DU.b .nil pass0 (pa_cons (pv 3) (pa_cons (pe_callS GP hr rfl DP.g DP.F.kp DP.b (fun σ => L2N.passAt takes0N σ) (pa_cons (pv 0) (pa_cons (pv 2) (pa_cons (pv 6) pa_nil)))) pa_nil))))
          (pss_cons (ps_set (i := 4) sc_sums.nd rfl (Or.inl rfl) (pe_call GU hr2 rfl DU.g DU.F.kp DU.b .nil pass0 (pa_cons (pv 4) (pa_cons (pe_callS GP hr rfl DP.g DP.F.kp DP.b (fun σ => L2N.passAt takes0N σ) (pa_cons (pv 0) (pa_cons (pv 6) (pa_cons (pv 2) pa_nil)))) pa_nil))))
          (pss_one (ps_set (i := 5) sc_sums.nd rfl (Or.inl rfl) (pe_call GU hr2 rfl DU.g DU.F.kp DU.b .nil pass0 (pa_cons (pv 5) (pa_cons (pe_call GX hr2 rfl DX.g DX.F.kp DX.b .nil pass0 (pa_cons (pe_tup (pa_cons (pv 6) (pa_cons (pe_int) pa_nil))) (pa_cons (pe_callS GP hr rfl DP.g DP.F.kp DP.b (fun σ => L2N.passAt takes0N σ) (pa_cons (pv 0) (pa_cons (pv 2) (pa_cons (pv 6) pa_nil)))) pa_nil))) pa_nil))))))))
        (pss_one (ps_if (PW.pt (pw_or (pt_cmpR (op_neD hr.units) (pv 3) (pe_tup (pa_cons (pe_int) (pa_cons (pe_int) pa_nil))) (nomark _)) (pw_or (pt_cmpR (op_neD hr.units) (pv 4) (pe_tup (pa_cons (pe_int) (pa_cons (pe_int) pa_nil))) (nomark _)) (pw_or1 (pt_cmpR (op_neD hr.units) (pv 5) (pe_callS GM hr rfl DM.g DM.F.kp DM.b (fun σ => L2N.passAt takes0N σ) (pa_cons (pv 0) (pa_cons (pv 2) pa_nil))) (nomark _))))))
          (pss_one (ps_ret (pe_bl)))
          (pss_nil))))))))
      (pss_one (ps_ret (pe_bl))), ?_⟩
    obtain ⟨T, eT⟩ : ∃ T, T = (ordersL m (kp js)).length := ⟨_, rfl⟩
    have pos : 0 < T := by rw [eT]; exact orders_pos ro
    have leT : T ≤ 40320 := by rw [eT]; exact Nat.le_trans orders_fct (fct_le8 m8)
    have big : (40320 * 1000 : Nat) < 2 ^ 40 := by decide
    have lp : ∀ (k : Int) (p : Nat), placeN m (kp js) k p ≤ T := fun k p => by rw [eT]; exact place_le k p
    have b1 : ∀ (k : Int) (i : Nat), i ≤ m → sumTo (fun p => placeN m (kp js) k p) i ≤ 8 * T := fun k i hi => Nat.le_trans (sumTo_le (fun j => lp k j) i) (Nat.mul_le_mul_right _ (by omega))
    have b2 : ∀ (p i : Nat), i ≤ m → sumTo (fun k => placeN m (kp js) (k : Int) p) i ≤ 8 * T := fun p i hi => Nat.le_trans (sumTo_le (fun j => lp _ p) i) (Nat.mul_le_mul_right _ (by omega))
    have b3 : ∀ (k : Int) (i : Nat), i ≤ m → sumTo (fun p => p * placeN m (kp js) k p) i ≤ 64 * T := fun k i hi => by
      have : ∀ i, i ≤ 8 → sumTo (fun p => p * placeN m (kp js) k p) i ≤ i * (8 * T) := fun i => by
        induction i with
        | zero => exact fun _ => Nat.zero_le _
        | succ i ih =>
          intro h
          rw [sumTo_succ, Nat.succ_mul]
          have := ih (by omega)
          have h2 : i * placeN m (kp js) k i ≤ 8 * T := Nat.mul_le_mul (by omega) (lp k i)
          omega
      have h1 := this i (by omega)
      have h2 : i * (8 * T) ≤ 8 * (8 * T) := Nat.mul_le_mul_right _ (by omega)
      omega
    refine ⟨fun σ' H' => ∃ v2 v3 v4 v5 v6 : Option V, σ' = [some (.ref x), some (.int (m : Int)), v2, v3, v4, v5, v6] ∧ Same H H', ?_, ?_⟩
    · refine ⟨_, rfl, m, rfl, by omega, by omega, for_range (lo := 0) (n := m) (fun i σ' H' => ∃ v2 v3 v4 v5 v6 : Option V, σ' = [some (.ref x), some (.int (m : Int)), v2, v3, v4, v5, v6] ∧ Same H H') ?_ ?_ ?_⟩
      · exact ⟨none, none, none, none, none, rfl, Same.refl H⟩
      · rintro i σ' HA hi ⟨v2, v3, v4, v5, v6, rfl, smA⟩
        rw [Int.zero_add]
        refine ⟨(by show 2 ≤ sizeLine; decide), fun pa npa => ?_⟩
        have s1 := same_new (o := .tup [.int 0, .int 1]) npa
        have ha : FrX K (upd HA pa (.tup [.int 0, .int 1])) pa (frN 0 T) := by
          rw [frN_zero pos]
          exact sqT_of upd_same
        generalize upd HA pa (.tup [.int 0, .int 1]) = HB at s1 ha ⊢
        refine ⟨(by show 2 ≤ sizeLine; decide), fun pb npb => ?_⟩
        have s2 := same_new (o := .tup [.int 0, .int 1]) npb
        have hb : FrX K (upd HB pb (.tup [.int 0, .int 1])) pb (frN 0 T) := by
          rw [frN_zero pos]
          exact sqT_of upd_same
        have ha := sqT_same ha s2
        generalize upd HB pb (.tup [.int 0, .int 1]) = HC at s2 ha hb ⊢
        refine ⟨(by show 2 ≤ sizeLine; decide), fun pc npc => ?_⟩
        have s3 := same_new (o := .tup [.int 0, .int 1]) npc
        have hc : FrX K (upd HC pc (.tup [.int 0, .int 1])) pc (frN 0 T) := by
          rw [frN_zero pos]
          exact sqT_of upd_same
        have ha := sqT_same ha s3
        have hb := sqT_same hb s3
        generalize upd HC pc (.tup [.int 0, .int 1]) = HD at s3 ha hb hc ⊢
        have smD := smA.trans (s1.trans (s2.trans s3))
        clear s1 s2 s3 npa npb npc smA
        refine ⟨fun σ' H' => ∃ (a b c : Addr) (w6 : Option V), σ' = [some (.ref x), some (.int (m : Int)), some (.int (i : Int)), some (.ref a), some (.ref b), some (.ref c), w6] ∧ Same H H' ∧ FrX K H' a (frN (sumTo (fun p => placeN m (kp js) (i : Int) p) m) T) ∧ FrX K H' b (frN (sumTo (fun k => placeN m (kp js) (k : Int) i) m) T) ∧ FrX K H' c (frN (sumTo (fun p => p * placeN m (kp js) (i : Int) p) m) T), ?_, ?_⟩
        · refine ⟨_, rfl, m, rfl, by omega, by omega, for_range (lo := 0) (n := m) (fun j σ' H' => ∃ (a b c : Addr) (w6 : Option V), σ' = [some (.ref x), some (.int (m : Int)), some (.int (i : Int)), some (.ref a), some (.ref b), some (.ref c), w6] ∧ Same H H' ∧ FrX K H' a (frN (sumTo (fun p => placeN m (kp js) (i : Int) p) j) T) ∧ FrX K H' b (frN (sumTo (fun k => placeN m (kp js) (k : Int) i) j) T) ∧ FrX K H' c (frN (sumTo (fun p => p * placeN m (kp js) (i : Int) p) j) T)) ?_ ?_ ?_⟩
          · exact ⟨pa, pb, pc, v6, rfl, smD, ha, hb, hc⟩
          · rintro j σ' HE hj ⟨a, b, c, w6, rfl, smE, ka, kb, kc⟩
            rw [Int.zero_add]
            have l1 := b1 (i : Int) j (by omega)
            have l2 := b2 i j (by omega)
            have l3 := b3 (i : Int) j (by omega)
            have lij := lp (i : Int) j
            have lji := lp (j : Int) i
            -- by name
            refine ⟨_, rfl, _, rfl, _, rfl, _, rfl, ?_⟩
            refine ⟨x, .int (i : Int), .int (j : Int), m, js, some (i : Int), some (j : Int), rfl, wa.same smE, m1, m8, ro, .int _, .int _, mn_noX hi, fun _ => mn_noX hj, fun k p ek ep _ _ HF z smF nz hz => ?_⟩
            rw [nat_ofX ek, nat_ofX ep, ← eT] at hz
            have hz : FrX K HF z (frN (placeN m (kp js) (i : Int) j) T) := sqT_of hz
            obtain ⟨n1, d1, n2, d2, f1, f2, p1, p2, q1, q2, q3, q4, ef⟩ := plus_partsX pos (by omega) (by omega) (by omega) (sqT_same ka smF) hz
            refine ⟨a, z, n1, d1, n2, d2, rfl, f1, f2, p1, p2, q1, q2, q3, q4, fun HG y smG ny hy => ?_⟩
            rw [ef, ← sumTo_succ (fun p => placeN m (kp js) (i : Int) p) j] at hy
            have hy : FrX K HG y (frN (sumTo (fun p => placeN m (kp js) (i : Int) p) (j + 1)) T) := sqT_of hy
            have sFG := smF.trans smG
            have smG' := smE.trans sFG
            have kb := sqT_same kb sFG
            have kc := sqT_same kc sFG
            clear smF smG sFG f1 f2 nz hz ny ka smE
            -- by place
            refine ⟨_, rfl, _, rfl, _, rfl, _, rfl, ?_⟩
            refine ⟨x, .int (j : Int), .int (i : Int), m, js, some (j : Int), some (i : Int), rfl, wa.same smG', m1, m8, ro, .int _, .int _, mn_noX hj, fun _ => mn_noX hi, fun k p ek ep _ _ HI z2 smI nz2 hz2 => ?_⟩
            rw [nat_ofX ek, nat_ofX ep, ← eT] at hz2
            have hz2 : FrX K HI z2 (frN (placeN m (kp js) (j : Int) i) T) := sqT_of hz2
            obtain ⟨n1, d1, n2, d2, f1, f2, p1, p2, q1, q2, q3, q4, ef⟩ := plus_partsX pos (by omega) (by omega) (by omega) (sqT_same kb smI) hz2
            refine ⟨b, z2, n1, d1, n2, d2, rfl, f1, f2, p1, p2, q1, q2, q3, q4, fun HJ y2 smJ ny2 hy2 => ?_⟩
            rw [ef, ← sumTo_succ (fun k => placeN m (kp js) (k : Int) i) j] at hy2
            have hy2 : FrX K HJ y2 (frN (sumTo (fun k => placeN m (kp js) (k : Int) i) (j + 1)) T) := sqT_of hy2
            have sIJ := smI.trans smJ
            have smJ' := smG'.trans sIJ
            have hy := sqT_same hy sIJ
            have kc := sqT_same kc sIJ
            clear smI smJ sIJ f1 f2 nz2 hz2 ny2 kb smG'
            -- mean
            refine ⟨_, rfl, _, rfl, (by show 2 ≤ sizeLine; decide), fun u nu => ?_⟩
            have su := same_new (o := .tup [.int (j : Int), .int 1]) nu
            have hu : FrAt K (upd HJ u (.tup [.int (j : Int), .int 1])) u j 1 := sqT_of upd_same
            generalize upd HJ u (.tup [.int (j : Int), .int 1]) = HK at su hu ⊢
            refine ⟨_, rfl, _, rfl, _, rfl, ?_⟩
            refine ⟨x, .int (i : Int), .int (j : Int), m, js, some (i : Int), some (j : Int), rfl, wa.same (smJ'.trans su), m1, m8, ro, .int _, .int _, mn_noX hi, fun _ => mn_noX hj, fun k p ek ep _ _ HL z3 smL nz3 hz3 => ?_⟩
            rw [nat_ofX ek, nat_ofX ep, ← eT] at hz3
            have hz3 : FrX K HL z3 (frN (placeN m (kp js) (i : Int) j) T) := sqT_of hz3
            obtain ⟨n2, d2, f2, p2, q2, q4, ef⟩ := times_partsX j pos (by omega) (by omega) hz3
            refine ⟨u, z3, j, 1, n2, d2, rfl, sqT_same hu smL, f2, Nat.one_pos, p2, by omega, q2, by decide, q4, fun HM y3 smM ny3 hy3 => ?_⟩
            rw [ef] at hy3
            have hy3 : FrX K HM y3 (frN (j * placeN m (kp js) (i : Int) j) T) := sqT_of hy3
            have sJM := su.trans (smL.trans smM)
            have lm : j * placeN m (kp js) (i : Int) j ≤ 8 * T := Nat.mul_le_mul (by omega) lij
            obtain ⟨n1, d1, n2, d2, f1, f2, p1, p2, q1, q2, q3, q4, ef⟩ := plus_partsX pos (by omega) (by omega) (by omega) (sqT_same kc sJM) hy3
            refine ⟨c, y3, n1, d1, n2, d2, rfl, f1, f2, p1, p2, q1, q2, q3, q4, fun HN y4 smN ny4 hy4 => ?_⟩
            rw [ef, ← sumTo_succ (fun p => p * placeN m (kp js) (i : Int) p) j] at hy4
            have sJN := sJM.trans smN
            exact ⟨y, y2, y4, _, rfl, smJ'.trans sJN, sqT_same hy sJN, sqT_same hy2 sJN, sqT_of hy4⟩
          · rintro σ' HE ⟨a, b, c, w6, rfl, smE, ka, kb, kc⟩
            exact ⟨a, b, c, w6, rfl, smE, ka, kb, kc⟩
        rintro σ' HE ⟨a, b, c, w6, rfl, smE, ka, kb, kc⟩
        rw [place_tot ro.bd hi, ← eT, (frN_one pos).mpr rfl] at ka
        rw [place_col ro.bd hi, ← eT, (frN_one pos).mpr rfl] at kb
        rw [mean_to] at kc
        -- as due
        refine ⟨_, rfl, (by show 2 ≤ sizeLine; decide), fun p1 np1 => ?_⟩
        have s1 := same_new (o := .tup [.int 1, .int 1]) np1
        refine ⟨_, _, dp_intD (sqT_same ka s1), dp_intD (l := [1, 1]) (sqT_of upd_same), shaped_intD _, shaped_intD _, false, by rw [eqv_intDG, decide_eq_true rfl]; rfl, iteF ?_⟩
        generalize upd HE p1 (.tup [.int 1, .int 1]) = HF at s1 ⊢
        refine ⟨_, rfl, (by show 2 ≤ sizeLine; decide), fun p2 np2 => ?_⟩
        have s2 := same_new (o := .tup [.int 1, .int 1]) np2
        have s12 := s1.trans s2
        refine ⟨_, _, dp_intD (sqT_same kb s12), dp_intD (l := [1, 1]) (sqT_of upd_same), shaped_intD _, shaped_intD _, false, by rw [eqv_intDG, decide_eq_true rfl]; rfl, iteF ?_⟩
        generalize upd HF p2 (.tup [.int 1, .int 1]) = HG at s2 s12 ⊢
        refine ⟨_, rfl, _, rfl, _, rfl, ?_⟩
        have smG := smE.trans s12
        refine ⟨x, .int (i : Int), m, js, some (i : Int), rfl, wa.same smG, m1, m8, ro, .int _, mn_noX hi, fun k ek _ HH z smH nz hz => ?_⟩
        rw [nat_ofX ek, ← eT] at hz
        have hz : FrX K HH z (frN (meanN m (kp js) i) T) := sqT_of hz
        refine ⟨_, _, dp_intD (sqT_same kc (s12.trans smH)), dp_intD hz, shaped_intD _, shaped_intD _, false, by rw [eqv_intDG, decide_eq_true rfl]; rfl, iteF ?_⟩
        exact ⟨_, _, _, _, _, rfl, smG.trans smH⟩
      · rintro σ' HA ⟨v2, v3, v4, v5, v6, rfl, smA⟩
        exact ⟨v2, v3, v4, v5, v6, rfl, smA⟩
    rintro σ' HA ⟨v2, v3, v4, v5, v6, rfl, smA⟩
    exact q HA smA
end
end Ev

namespace Ev
open PySem L2
open C8 (pss_cut tCut InsC)
theorem freeI_yes {ps : List Pr} {ls : List Int} {i : Nat} (h : canI ps ls (i : Int) = true) : freeI (i + 1) ps ls = freeI i ps ls ++ [(i : Int)] := by
  unfold freeI upto
  rw [List.range_succ, List.map_append, List.filter_append]
  congr 1
  show ([(i : Int)].filter (canI ps ls)) = [(i : Int)]
  rw [List.filter_cons_of_pos h]
  rfl
theorem freeI_no {ps : List Pr} {ls : List Int} {i : Nat} (h : canI ps ls (i : Int) = false) : freeI (i + 1) ps ls = freeI i ps ls := by
  unfold freeI upto
  rw [List.range_succ, List.map_append, List.filter_append]
  have e : ([(i : Int)].filter (canI ps ls)) = [] := by
    rw [List.filter_cons_of_neg (by rw [h]; exact Bool.false_ne_true)]
    rfl
  show _ ++ ([(i : Int)].filter (canI ps ls)) = _
  rw [e, List.append_nil]
theorem freeI_len {m : Nat} {ps : List Pr} {ls : List Int} : (freeI m ps ls).length ≤ m := by
  unfold freeI
  exact Nat.le_trans (List.length_filter_le _ _) (by rw [upto_length]; exact Nat.le_refl _)
/-- the befores of a that are not in ls -/
def lackF (ls : List Int) (a : Int) (p : Pr) : Bool := decide (p.2 = a) && !decide (p.1 ∈ ls)
theorem lack_can {ps : List Pr} {ls : List Int} {a : Int} (h : a ∉ ls) : decide ((ps.filter (lackF ls a)).length = 0) = canI ps ls a := by
  unfold canI
  rw [decide_eq_false h, Bool.not_false, Bool.true_and]
  refine Bool.eq_iff_iff.mpr ?_
  rw [decide_eq_true_eq, List.length_eq_zero_iff, List.filter_eq_nil_iff, List.all_eq_true]
  constructor
  · intro q p mp
    have := q p mp
    unfold lackF at this
    by_cases e1 : p.2 = a <;> by_cases e2 : p.1 ∈ ls <;> simp [e1, e2] at this ⊢
  · intro q p mp
    have := q p mp
    unfold lackF
    by_cases e1 : p.2 = a <;> by_cases e2 : p.1 ∈ ls <;> simp [e1, e2] at this ⊢
section
variable {P : Program} {w : World} {K : PySem.W.Frag} {mg : Str → Option Value} {base : Heap}
/-! ### the law's own look at who may come -/
def sp_free (K : PySem.W.Frag) : Sp := fun vs H Q _ => ∃ (ev rz : Addr) (m : Nat) (es : Kp) (rs : List Int), vs = [.ref ev, .int m, .ref rz] ∧ SqT K H ev (kv es) ∧ KsAt K H es ∧ es.length ≤ 64 ∧ m ≤ 8 ∧ SqT K H rz (rs.map V.int) ∧
  ∀ H' d, Same H H' → H d = none → H' d = some (.lst ((freeI m (kp es) rs).map V.int)) → Q (.ref d) H'
abbrev s_free : Stmt := topS 39 -- @_law_free
abbrev n_free : List Str := ["befores", "many", "row", "found", "name", "one", "other"]
theorem sc_free : FnScope n_free ["befores", "many", "row"] (defScope s_free) := ⟨rfl, rfl, rfl, by decide +kernel, rfl, by decide +kernel, by decide +kernel⟩
theorem ok_free {f : Addr} {fd : FuncData} (F : Fun K "_law_free" "_law_free" s_free f fd) (B : Bl mg) : FnOk P w K mg base CX0 1 f fd ["befores", "many", "row"] (sp_free K) := by
  refine F.ok sc_free (fun vs H Q E h => ?_) (fun cdv A outer s H vs Q E hr h => ?_)
  · obtain ⟨ev, rz, m, es, rs, rfl, _⟩ := h
    rfl
  · obtain ⟨ev, rz, m, es, rs, rfl, he, hke, few, m8, hrz, q⟩ := h
    refine ⟨_, pss_cons (ps_set (i := 3) sc_free.nd rfl (Or.inl rfl) (pe_lst pa_nil))
      (pss_cut (ps_for PassesOwn.never rfl (pi_range1 (by rfl) B.range (pa_cons (pv 1) pa_nil)) (pg_name (i := 4) sc_free.nd rfl (Or.inr rfl))
        (pss_one (ps_if (PW.pt (pw_and (pt_cmpR op_notIn_seq (pv 4) (pv 2) (by rfl)) (pw_and1 (pt_cmpR op_eq (pe_callB call_len_seq (by rfl) B.len (by decide +kernel) (pa_cons (pe_lc (own := [("one", 5), ("other", 6)]) (g := (gTup K 2 (gCons (gName 5) (gCons (gName 6) gNil)))) (tt := (tAnd (tTest (tOp rEq (tVar 6) (tVar 4))) (tTest (tOp (rIn K true) (tVar 5) (tVar 2))))) (te := (tVar 5)) (by rfl) sc_free.nd (pi_tup (pv 0)) (blkOk_by (N := n_free) (sc := defScope s_free) (by decide +kernel)) (fun _ _ _ _ _ => by exact pg_tup (by rfl) (pgs_cons (pg_name (i := 5) sc_free.nd rfl (Or.inl rfl)) (pgs_cons (pg_name (i := 6) sc_free.nd rfl (Or.inl rfl)) pgs_nil))) (fun _ _ _ _ _ => by exact pts_one (PW.pt (pw_and (pt_cmpR op_eq (pv 6) (pv 4) (nomark _)) (pw_and1 (pt_cmpR op_notIn_seq (pv 5) (pv 2) (by rfl)))))) (fun _ _ _ _ _ => by exact pv 5)) pa_nil)) (pe_int) (nomark _)))))
          (pss_one (ps_expr (pe_bm PySem.F.plainAttrs_list PySem.F.slot_list_append PySem.F.type_list_append mt_append (pv 3) (pa_cons (pv 4) pa_nil))))
          (pss_nil))))
      (pss_one (ps_ret (pv 3)))), ?_⟩
    refine ⟨Nat.zero_le _, fun d nd => ?_⟩
    refine ⟨fun σ' H' => ∃ v4, σ' = [some (.ref ev), some (.int m), some (.ref rz), some (.ref d), v4, none, none] ∧ Same H H' ∧ H' d = some (.lst ((freeI m (kp es) rs).map V.int)), ?_, ?_⟩
    · refine ⟨_, rfl, m, rfl, by omega, by omega, for_range (lo := 0) (n := m) (fun i σ' H' => ∃ v4, σ' = [some (.ref ev), some (.int m), some (.ref rz), some (.ref d), v4, none, none] ∧ Same H H' ∧ H' d = some (.lst ((freeI i (kp es) rs).map V.int))) ?_ ?_ ?_⟩
      · exact ⟨none, rfl, same_new nd, upd_same⟩
      · rintro i σ' H1 hi ⟨v4, rfl, sm, hd⟩
        have len := freeI_len (m := i) (ps := kp es) (ls := rs)
        have ei : (0 : Int) + (i : Nat) = (i : Int) := Int.zero_add _
        refine ⟨_, rfl, _, rfl, rz, _, rfl, .inr (sqT_same hrz sm), rfl, flat_ints rs, _, rfl, ?_⟩
        rw [if_pos rfl, inV_int]
        by_cases hin : (0 : Int) + (i : Nat) ∈ rs
        · rw [decide_eq_true hin]
          refine iteF ⟨_, rfl, sm, ?_⟩
          rw [freeI_no (by unfold canI; rw [← ei, decide_eq_true hin]; rfl)]
          exact hd
        · rw [decide_eq_false hin]
          refine iteT ⟨_, rfl, ev, rfl, ⟨_, sqT_same he sm⟩, fun D nD => ?_⟩
          have dD : d ≠ D := ne_of_none hd nD
          refine lc_tup (K := K) (a := ev) (xs := kv es) (fun j H' => Same H1 H' ∧ ∃ ys : List V, H' D = some (.lst ys) ∧ ys.length = (((kp es).take j).filter (lackF rs (0 + (i : Nat)))).length) ?_ ?_ ?_ ?_
          · exact ⟨same_new nD, [], upd_same, rfl⟩
          · rintro j H2 _ ⟨sm2, _⟩
            exact sqT_same he (sm.trans sm2)
          · rintro j y H2 hj ⟨sm2, ys, hD, ly⟩
            obtain ⟨⟨pa, y1, y2⟩, gk, rfl⟩ := get_kv hj
            have lt : j < es.length := (List.getElem?_eq_some_iff.mp gk).1
            have ll : ys.length ≤ 64 := by
              have l1 : (((kp es).take j).filter (lackF rs (0 + (i : Nat)))).length ≤ ((kp es).take j).length := List.length_filter_le _ _
              rw [List.length_take, kp_length] at l1
              omega
            refine ⟨pa, _, rfl, (hke.same (sm.trans sm2)) _ (List.mem_of_getElem? gk), rfl, _, _, rfl, _, _, rfl, rfl, rfl, _, rfl, _, rfl, rfl, _, rfl, ?_⟩
            have ed : decide (V.int (pa, y1, y2).2.2 = V.int (0 + (i : Nat))) = decide (y2 = (0 : Int) + (i : Nat)) := decide_eq_decide.mpr ⟨fun h => V.int.inj h, fun h => by rw [← h]⟩
            rw [ed]
            by_cases e1 : y2 = (0 : Int) + (i : Nat)
            · rw [decide_eq_true e1]
              refine iteT ⟨_, rfl, _, rfl, rz, _, rfl, .inr (sqT_same hrz (sm.trans sm2)), rfl, flat_ints rs, _, rfl, ?_⟩
              rw [if_pos rfl, inV_int]
              by_cases e2 : y1 ∈ rs
              · rw [decide_eq_true e2]
                refine iteF ⟨sm2, ys, hD, ?_⟩
                rw [ly, take_snoc (kp_get gk), List.filter_append, List.filter_cons_of_neg (by unfold lackF; rw [decide_eq_true e2]; simp), List.filter_nil, List.append_nil]
              · rw [decide_eq_false e2]
                refine iteT ⟨_, rfl, ys, hD, small64 ll, same_upd sm2 nD, _, upd_same, ?_⟩
                rw [List.length_append, ly, take_snoc (kp_get gk), List.filter_append, List.filter_cons_of_pos (by unfold lackF; rw [decide_eq_false e2, decide_eq_true e1]; rfl), List.length_append]
                rfl
            · rw [decide_eq_false e1]
              refine iteF ⟨sm2, ys, hD, ?_⟩
              rw [ly, take_snoc (kp_get gk), List.filter_append, List.filter_cons_of_neg (by unfold lackF; rw [decide_eq_false e1]; simp), List.filter_nil, List.append_nil]
          rintro H2 ⟨sm2, ys, hD, ly⟩
          rw [kv_length, List.take_of_length_le (by rw [kp_length]; exact Nat.le_refl _)] at ly
          refine ⟨D, ys, rfl, .inl (SqL.of hD), rfl, _, rfl, ?_⟩
          have ec : decide (V.int (ys.length : Nat) = V.int 0) = canI (kp es) rs (i : Int) := by
            rw [← lack_can (by rw [← ei]; exact hin), ← ei, ← ly]
            exact decide_eq_decide.mpr ⟨fun h => by have := V.int.inj h; omega, fun h => by rw [h]; rfl⟩
          rw [ec]
          have sm12 := sm.trans sm2
          have hd2 := sm2 _ _ hd
          cases e : canI (kp es) rs (i : Int) with
          | false => exact iteF ⟨_, rfl, sm12, by rw [freeI_no e]; exact hd2⟩
          | true =>
            refine iteT ⟨_, rfl, .inl ⟨rfl, _, SqL.of hd2⟩, _, rfl, d, _, _, rfl, rfl, hd2, ?_, _, rfl, same_upd sm12 nd, ?_⟩
            · rw [List.length_map]
              exact small64 (by omega)
            · rw [upd_same, freeI_yes e, List.map_append, ei]
              rfl
      · rintro σ' H1 ⟨v4, rfl, sm, hd⟩
        exact ⟨v4, rfl, sm, hd⟩
    rintro σ' H1 ⟨v4, rfl, sm, hd⟩
    exact ⟨_, rfl, q H1 d sm nd hd⟩
end
end Ev

namespace Ev
open PySem PySem.Spec PyProof.Rows L2
/-! ### tuples that stand exactly so -/
def TupX (H : Hp) (p : Addr) (xs : List V) : Prop := ∃ o, H p = some (.frz o (.tup xs)) ∧ o.cls = .type "tuple" ∧ o.dict = none
theorem TupX.sqT {K : PySem.W.Frag} {H : Hp} {p : Addr} {xs : List V} (h : TupX H p xs) : SqT K H p xs := by
  obtain ⟨o, h, _⟩ := h
  exact .inl (.inr ⟨o, h⟩)
theorem TupX.same {H H' : Hp} {p : Addr} {xs : List V} (h : TupX H p xs) (k : Same H H') : TupX H' p xs := by
  obtain ⟨o, h, r⟩ := h
  exact ⟨o, k _ _ h, r⟩
theorem TupX.keep {H H' : Hp} {t p : Addr} {xs ys : List V} (h : TupX H p xs) (k : Keep t H H') (ht : H t = some (.lst ys)) : TupX H' p xs := by
  obtain ⟨o, h, r⟩ := h
  exact ⟨o, k _ _ h (ne_of h ht nofun), r⟩
theorem TupX.put {H H' : Hp} {t p : Addr} {xs : List V} {u : HO} (h : TupX H p xs) (k : Keep t H H') (ht : H t = some u) (hn : ∀ o, u ≠ .frz o (.tup xs)) : TupX H' p xs := by
  obtain ⟨o, h, r⟩ := h
  exact ⟨o, k _ _ h (fun e => by
    rw [e, ht] at h
    exact hn o (Option.some.inj h)), r⟩
theorem TupX.of {H : Hp} {p : Addr} {xs : List V} {o : Obj} (h : H p = some (.frz o (.tup xs))) (hc : o.cls = .type "tuple") (hd : o.dict = none) : TupX H p xs := ⟨o, h, hc, hd⟩
section
variable {X : Cx}
/-- (a, b, ..): the new one as it stands -/
def tTupX (t : TA) : TE := fun σ H Q => t σ H fun xs H1 => xs.length ≤ sizeLine ∧ ∀ p o, H1 p = none → o.cls = .type "tuple" → o.dict = none → Q (.ref p) (upd H1 p (.frz o (.tup xs)))
theorem pe_tupX {es : List Expr} {t : TA} {x1} {pos : Pos} (h : PA X es t) : PE X (.Tuple es x1 pos) (tTupX t) := by
  refine ⟨fun pins s σ H Q I hq => ?_⟩
  refine wpAny_Tuple_spliced (thn (h.run pos pins s σ H _ I hq) fun us s1 ⟨xs, H1, I1, r, z, q⟩ => ⟨by rw [← r.length]; exact z, ?_⟩)
  have hf : H1 s1.heap.objs.size = none := I1.hok.fresh (Nat.le_refl _)
  refine ⟨.ref s1.heap.objs.size, upd H1 s1.heap.objs.size (.frz { cls := .type "tuple", data := .seq us.toArray } (.tup xs)), I1.laid (t' := s1.toks) (fun b u e => Heap.get?_push_of_some _ e) (Nat.le_refl _) ?_, rfl, q _ _ hf rfl rfl⟩
  exact ⟨Heap.get?_push_size _ rfl, z, us, r, ⟨_, Heap.get?_push_size _ rfl, rfl, _, rfl⟩⟩
/-- t + u: the new one as it stands -/
def rCatX (K : PySem.W.Frag) : R2 := fun x y H Q => ∃ a b xs ys, x = .ref a ∧ y = .ref b ∧ SqT K H a xs ∧ SqT K H b ys ∧ xs.length + ys.length ≤ sizeLine ∧
  (xs = [] → Q (.ref b) H) ∧ (xs ≠ [] → ys = [] → Q (.ref a) H) ∧ (xs ≠ [] → ys ≠ [] → ∀ p o, H p = none → o.cls = .type "tuple" → o.dict = none → Q (.ref p) (upd H p (.frz o (.tup (xs ++ ys)))))
theorem op_catX : OpR X (binaryOp .Add) (rCatX X.K) := by
  intro pins s σ H x y v u Q I rx ry h
  obtain ⟨a, b, xs, ys, rfl, rfl, ha, hb, hz, q0, q1, q2⟩ := h
  by_cases hx : xs = []
  · subst hx
    cases rx
    cases ry
    obtain ⟨its, r1, p1, _⟩ := I.tuple ha
    obtain ⟨its2, r2, p2, _⟩ := I.tuple hb
    cases r1
    exact cat_tup0 p1 p2 ⟨.ref b, H, I, rfl, q0 rfl⟩
  · cases rx
    cases ry
    obtain ⟨its, r1, p1, _⟩ := I.tuple ha
    obtain ⟨its2, r2, p2, _⟩ := I.tuple hb
    refine HT.cat_tup p1 p2 (fun z => hx (r1.nil_iff.mp z)) (fun z => ⟨.ref a, H, I, rfl, q1 hx (r2.nil_iff.mp z)⟩) (fun z => ?_) (by rw [← r1.length, ← r2.length]; exact hz)
    refine ⟨.ref s.heap.objs.size, _, I.laid (t' := s.toks) (o := .frz { cls := .type "tuple", data := .seq (its ++ its2).toArray } (.tup (xs ++ ys))) (fun b ob q => Heap.get?_push_of_some _ q) (Nat.le_refl _) ?_, rfl, q2 hx (fun w => z (r2.nil_iff.mpr w)) _ _ (I.hok.fresh (Nat.le_refl _)) rfl rfl⟩
    exact ⟨Heap.get?_push_size _ rfl, by rw [List.length_append]; exact hz, _, r1.append r2, IsTup.new _ _⟩
end
theorem rd_catX {K : PySem.W.Frag} {H : Hp} {a b : Addr} {xs ys : List V} {Q : VK} (h1 : TupX H a xs) (h2 : TupX H b ys) (hz : xs.length + ys.length ≤ sizeLine) (q : ∀ c H', Same H H' → TupX H' c (xs ++ ys) → Q (.ref c) H') : rCatX K (.ref a) (.ref b) H Q := by
  refine ⟨a, b, xs, ys, rfl, rfl, h1.sqT, h2.sqT, hz, fun e => ?_, fun _ e => ?_, fun _ _ c o nc hc hd => q c _ (same_new nc) (.of upd_same hc hd)⟩
  · refine q b H (Same.refl H) ?_
    rw [e]
    exact h2
  · refine q a H (Same.refl H) ?_
    rw [e, List.append_nil]
    exact h1
/-! ### rows of such -/
def LpX (H : Hp) (ks : Lp) : Prop := ∀ k ∈ ks, TupX H k.1 (k.2.map V.int)
theorem LpX.at_ {K : PySem.W.Frag} {H : Hp} {ks : Lp} (h : LpX H ks) : LpAt K H ks := fun k m => (h k m).sqT
theorem LpX.keepS {H H' : Hp} {ks : Lp} (h : LpX H ks) (s : Same H H') : LpX H' ks := fun k m => (h k m).same s
theorem LpX.keepK {H H' : Hp} {ks : Lp} {t : Addr} {ys : List V} (h : LpX H ks) (k : Keep t H H') (ht : H t = some (.lst ys)) : LpX H' ks := fun x m => (h x m).keep k ht
theorem LpX.add {H : Hp} {ks js : Lp} (h : LpX H ks) (h' : LpX H js) : LpX H (ks ++ js) := fun k m => (List.mem_append.mp m).elim (h k) (h' k)
theorem LpX.one {H : Hp} {p : Addr} {l : List Int} (h : TupX H p (l.map V.int)) : LpX H [(p, l)] := fun k m => by
  rw [List.mem_singleton.mp m]
  exact h
theorem LpX.off {H : Hp} {ks : Lp} {D : Addr} {o : HO} {ys : List V} (h : LpX H ks) (hD : H D = some (.lst ys)) : LpX (upd H D o) ks := fun k m => (h k m).keep (Keep.refl D H).upd hD
end Ev

namespace Ev
open PySem L2
open C8 (pss_cut tCut InsC)
theorem lvv_appX (a b : Lp) : lvv (a ++ b) = lvv a ++ lvv b := List.map_append
theorem lvp_appX (a b : Lp) : lvp (a ++ b) = lvp a ++ lvp b := List.map_append
theorem lvv_lenX (a : Lp) : (lvv a).length = a.length := List.length_map _
theorem lvp_lenX (a : Lp) : (lvp a).length = a.length := List.length_map _
theorem lv_itemX {ks : Lp} {i : Nat} {x : V} (h : (lvv ks)[i]? = some x) : ∃ k, ks[i]? = some k ∧ x = .ref k.1 := by
  unfold lvv at h
  rw [List.getElem?_map] at h
  obtain ⟨k, g, e⟩ := Option.map_eq_some_iff.mp h
  exact ⟨k, g, e.symm⟩
theorem lv_rowX {ks : Lp} {i : Nat} {k : Addr × List Int} (h : ks[i]? = some k) : (lvp ks)[i]? = some k.2 := by
  unfold lvp
  rw [List.getElem?_map, h]
  rfl
theorem lt_sizeX {n : Nat} (h : n ≤ 100000) : n < sizeLine := Nat.lt_of_le_of_lt h (by decide)
section
variable {P : Program} {w : World} {K : PySem.W.Frag} {mg : Str → Option Value} {base : Heap}
/-! ### the law's own list of all orders -/
def sp_lawOX (K : PySem.W.Frag) : Sp := fun vs H Q _ => ∃ (ev : Addr) (m : Nat) (es : Kp), vs = [.ref ev, .int m] ∧ SqT K H ev (kv es) ∧ KsAt K H es ∧ es.length ≤ 64 ∧ m ≤ 8 ∧ In m (kp es) ∧
  ∀ H' l rs, Same H H' → H l = none → H' l = some (.lst (lvv rs)) → LpX H' rs → lvp rs = ordersL m (kp es) → Q (.ref l) H'
abbrev s_lawO : Stmt := topS 40 -- @_law_orders
abbrev n_lawO : List Str := ["befores", "many", "found", "turn", "longer", "row", "name"]
theorem sc_lawO : FnScope n_lawO ["befores", "many"] (defScope s_lawO) := ⟨rfl, rfl, rfl, by decide +kernel, rfl, by decide +kernel, by decide +kernel⟩
theorem ok_lawOX {f f1 : Addr} {fd fd1 : FuncData} (F : Fun K "_law_orders" "_law_orders" s_lawO f fd) (D1 : Df K mg "_law_free" s_free ["befores", "many", "row"] f1 fd1) (B : Bl mg) :
    FnOk P w K mg base CX0 2 f fd ["befores", "many"] (sp_lawOX K) := by
  have G1 : FnOk P w K mg base CX0 1 f1 fd1 ["befores", "many", "row"] (sp_free K) := ok_free D1.F B
  refine F.ok sc_lawO (fun vs H Q E h => ?_) (fun cdv A outer s H vs Q E hr h => ?_)
  · obtain ⟨ev, m, es, rfl, _⟩ := h
    rfl
  · obtain ⟨ev, m, es, rfl, hev, hke, few, m8, bd, q⟩ := h
    refine ⟨_, pss_cons (ps_set (i := 2) sc_lawO.nd rfl (Or.inl rfl) (pe_lst (pa_cons (pe_tupX pa_nil) pa_nil)))
      (pss_cut (ps_for PassesOwn.never rfl (pi_range1 (by rfl) B.range (pa_cons (pv 1) pa_nil)) (pg_name (i := 3) sc_lawO.nd rfl (Or.inl rfl))
        (pss_cons (ps_set (i := 4) sc_lawO.nd rfl (Or.inl rfl) (pe_lst pa_nil))
        (pss_cut (ps_for PassesOwn.never rfl (pi_list (pv 2)) (pg_name (i := 5) sc_lawO.nd rfl (Or.inr rfl))
          (pss_one (ps_set (i := 4) sc_lawO.nd rfl (Or.inl rfl) (pe_op op_cat (pv 4) (pe_lc (own := [("name", 6)]) (g := (gName 6)) (tt := tYes) (te := (tOp (rCatX K) (tVar 5) (tTupX (tCons (tVar 6) tNil)))) (by rfl) sc_lawO.nd (pi_list (pe_call G1 hr rfl D1.g D1.F.kp D1.b .nil pass0 (pa_cons (pv 0) (pa_cons (pv 1) (pa_cons (pv 5) pa_nil))))) (blkOk_by (N := n_lawO) (sc := defScope s_lawO) (by decide +kernel)) (fun _ _ _ _ _ => by exact pg_name (i := 6) sc_lawO.nd rfl (Or.inl rfl)) (fun _ _ _ _ _ => by exact pts_nil) (fun _ _ _ _ _ => by exact pe_op op_catX (pv 5) (pe_tupX (pa_cons (pv 6) pa_nil))))))))
        (pss_one (ps_set (i := 2) sc_lawO.nd rfl (Or.inl rfl) (pv 4))))))
      (pss_one (ps_ret (pv 2)))), ?_⟩
    refine ⟨Nat.zero_le _, fun z0 o0 nz0 hc0 hd0' => ⟨(by show 1 ≤ sizeLine; decide), fun d0 nd0 => ?_⟩⟩
    have sz0 := same_new (o := .frz o0 (.tup [])) nz0
    have sd0 := same_upd (o := .lst [.ref z0]) sz0 (none_of sz0 nd0)
    have zd : z0 ≠ d0 := fun e => by
      rw [← e, upd_same] at nd0
      cases nd0
    have at0 : LpX (upd (upd H z0 (.frz o0 (.tup []))) d0 (.lst [.ref z0])) [(z0, [])] := fun k mk => by
      rw [List.mem_singleton.mp mk]
      exact .of (by rw [upd_ne zd]; exact upd_same) hc0 hd0'
    have nd0' := none_of sz0 nd0
    refine ⟨fun σ' H' => ∃ (e : Addr) (ls : Lp) (v3 v4 v5 : Option V), σ' = [some (.ref ev), some (.int m), some (.ref e), v3, v4, v5, none] ∧ Same H H' ∧ H e = none ∧ H' e = some (.lst (lvv ls)) ∧ LpX H' ls ∧ lvp ls = rowsFrom m (kp es) m [], ?_, ?_⟩
    · refine ⟨_, rfl, m, rfl, by omega, by omega, for_range (lo := 0) (n := m) (fun i σ' H' => ∃ (e : Addr) (ls : Lp) (v3 v4 v5 : Option V), σ' = [some (.ref ev), some (.int m), some (.ref e), v3, v4, v5, none] ∧ Same H H' ∧ H e = none ∧ H' e = some (.lst (lvv ls)) ∧ LpX H' ls ∧ lvp ls = rowsFrom m (kp es) i []) ?_ ?_ ?_⟩
      · exact ⟨d0, [(z0, [])], none, none, none, rfl, sd0, nd0', upd_same, at0, rfl⟩
      · rintro i σ' H3 hi ⟨e, ls, v3, v4, v5, rfl, sm3, ne, he, hls, el⟩
        have lvl := level_le (m := m) (ps := kp es) m8 (i + 1)
        refine ⟨Nat.zero_le _, fun l0 nl0 => ?_⟩
        have sl0 := same_new (o := .lst []) nl0
        have nl0' := none_of sm3 nl0
        refine ⟨fun σ' H' => ∃ (l : Addr) (gs : Lp) (w3 v5 : Option V), σ' = [some (.ref ev), some (.int m), some (.ref e), w3, some (.ref l), v5, none] ∧ Same H3 H' ∧ H l = none ∧ H' l = some (.lst (lvv gs)) ∧ LpX H' gs ∧ lvp gs = rowsFrom m (kp es) (i + 1) [], ?_, ?_⟩
        · refine ⟨_, rfl, e, rfl, ⟨_, SqL.of (sl0 _ _ he)⟩, for_list (K := K) (a := e) (xs := lvv ls) (fun j σ' H' => ∃ (l : Addr) (gs : Lp) (w3 v5 : Option V), σ' = [some (.ref ev), some (.int m), some (.ref e), w3, some (.ref l), v5, none] ∧ Same H3 H' ∧ H l = none ∧ H' l = some (.lst (lvv gs)) ∧ LpX H' gs ∧ lvp gs = ((lvp ls).take j).flatMap (ext m (kp es))) ?_ ?_ ?_ ?_⟩
          · exact ⟨l0, [], some (.int (0 + (i : Nat))), v5, rfl, sl0, nl0', upd_same, nofun, rfl⟩
          · rintro j σ' H4 _ ⟨l, gs, w3, v5, rfl, sm4, _⟩
            exact SqL.of (sm4 _ _ he)
          · rintro j y σ' H4 hj ⟨l, gs, w3, w5, rfl, sm4, nl, hl, hgs, eg⟩
            obtain ⟨⟨pa, row⟩, gk, rfl⟩ := lv_itemX hj
            have grow := lv_rowX gk
            have mrow : row ∈ rowsFrom m (kp es) i [] := by
              rw [← el]
              exact List.mem_of_getElem? grow
            obtain ⟨rl, rnd, rbd⟩ := mem_level bd mrow
            have hrow := (hls.keepS sm4) _ (List.mem_of_getElem? gk)
            have s34 := sm3.trans sm4
            refine ⟨_, rfl, _, rfl, _, rfl, _, rfl, ev, pa, m, es, row, rfl, sqT_same hev s34, hke.same s34, few, m8, hrow.sqT, fun H5 c sm5 nc hc => ⟨c, rfl, ⟨_, SqL.of hc⟩, fun D nD => ?_⟩⟩
            have cD : c ≠ D := ne_of_none hc nD
            refine lc_list (K := K) (a := c) (xs := (freeI m (kp es) row).map V.int) (fun k H' => Same H5 H' ∧ ∃ fs : Lp, H' D = some (.lst (lvv fs)) ∧ LpX H' fs ∧ lvp fs = ((freeI m (kp es) row).take k).map fun a => row ++ [a]) ?_ ?_ ?_ ?_
            · exact ⟨same_new nD, [], upd_same, nofun, rfl⟩
            · rintro k H6 _ ⟨sm6, _⟩
              exact SqL.of (sm6 _ _ hc)
            · rintro k y H6 hk ⟨sm6, fs, hD, hfs, ef⟩
              rw [List.getElem?_map] at hk
              obtain ⟨a, ga, rfl⟩ := Option.map_eq_some_iff.mp hk
              have lf : fs.length ≤ 8 := by
                have e := congrArg List.length ef
                rw [lvp_lenX, List.length_map, List.length_take] at e
                have := freeI_len (m := m) (ps := kp es) (ls := row)
                omega
              refine ⟨rfl, _, rfl, _, rfl, (by show 1 ≤ sizeLine; decide), fun u ou nu hcu hdu => ?_⟩
              have su := same_new (o := .frz ou (.tup [.int a])) nu
              have uD : D ≠ u := ne_of_none hD nu
              refine rd_catX (hrow.same ((sm5.trans sm6).trans su)) (.of upd_same hcu hdu) ?_ fun b H7 sm7 hb => ?_
              · rw [List.length_map, rl, List.length_singleton]
                exact Nat.le_of_lt (small64 (by show i + 1 ≤ 64; omega))
              have sm67 := su.trans sm7
              have hD7 := sm67 _ _ hD
              refine ⟨lvv fs, hD7, by rw [lvv_lenX]; exact small64 (by omega), same_upd (sm6.trans sm67) nD, fs ++ [(b, row ++ [a])], ?_, ?_, ?_⟩
              · rw [upd_same, lvv_appX]
                rfl
              · refine LpX.off (ys := lvv fs) ((hfs.keepS sm67).add (LpX.one ?_)) hD7
                show TupX H7 b ((row ++ [a]).map V.int)
                rw [List.map_append]
                exact hb
              · rw [lvp_appX, ef, take_snoc ga, List.map_append]
                rfl
            rintro H6 ⟨sm6, fs, hD, hfs, ef⟩
            rw [List.length_map, List.take_length] at ef
            have sm46 := sm5.trans sm6
            have lgf : gs.length + fs.length ≤ 40320 := by
              refine Nat.le_trans ?_ lvl
              rw [rows_level, ← el, ← lvp_lenX gs, ← lvp_lenX fs, eg, ef]
              have e1 : lvp ls = (lvp ls).take j ++ (row :: (lvp ls).drop (j + 1)) := by
                obtain ⟨lt, eq⟩ := List.getElem?_eq_some_iff.mp grow
                have eq : (lvp ls)[j] = row := eq
                rw [← eq, ← List.drop_eq_getElem_cons lt, List.take_append_drop]
              conv => rhs; rw [e1, List.flatMap_append, List.flatMap_cons]
              rw [List.length_append, List.length_append]
              unfold ext
              omega
            refine ⟨l, D, lvv gs, lvv fs, rfl, rfl, sm46 _ _ hl, hD, ?_, fun u nu => ?_⟩
            · rw [lvv_lenX, lvv_lenX]
              exact Nat.le_of_lt (lt_sizeX (by omega))
            · refine ⟨u, gs ++ fs, _, _, rfl, (sm4.trans sm46).trans (same_new nu), none_of (s34.trans sm46) nu, by rw [upd_same, lvv_appX], ((hgs.keepS sm46).add hfs).keepS (same_new nu), ?_⟩
              rw [lvp_appX, eg, ef, take_snoc grow, List.flatMap_append, List.flatMap_singleton]
              rfl
          · rintro σ' H4 ⟨l, gs, w3, v5, rfl, sm4, nl, hl, hgs, eg⟩
            rw [lvv_lenX, ← lvp_lenX ls, List.take_length, el, ← rows_level] at eg
            exact ⟨l, gs, w3, v5, rfl, sm4, nl, hl, hgs, eg⟩
        rintro σ' H4 ⟨l, gs, w3, v5, rfl, sm4, nl, hl, hgs, eg⟩
        exact ⟨_, rfl, l, gs, _, _, _, rfl, sm3.trans sm4, nl, hl, hgs, eg⟩
      · rintro σ' H3 ⟨e, ls, v3, v4, v5, rfl, sm3, ne, he, hls, el⟩
        exact ⟨e, ls, v3, v4, v5, rfl, sm3, ne, he, hls, el⟩
    rintro σ' H3 ⟨e, ls, v3, v4, v5, rfl, sm3, ne, he, hls, el⟩
    exact ⟨_, rfl, q H3 e ls sm3 ne he hls el⟩
end
end Ev

namespace Ev
open PySem L2
open C8 (pss_cut tCut InsC)
section
variable {P : Program} {w : World} {K : PySem.W.Frag} {mg : Str → Option Value} {base : Heap}
def sp_wop (K : PySem.W.Frag) (C : Addr) : Sp := fun vs H Q _ => ∃ (l : Addr) (m : Nat) (ks : Kp), vs = [.int m, .ref l] ∧ 1 ≤ m ∧ m ≤ 8 ∧ SqL K H l (kv ks) ∧ KsAt K H ks ∧ In m (kp ks) ∧ (kp ks).Nodup ∧ UpsOk (kp ks) ∧
  ∀ x H' js, Same H H' → H x = none → WebAt K C H' x m js → Cl (kp ks) (kp js) → Q (.ref x) H'
abbrev s_wop : Stmt := topS 28 -- @_web_of_pairs
theorem sc_wop : FnScope ["many", "pairs"] ["many", "pairs"] (defScope s_wop) := ⟨rfl, rfl, rfl, by decide +kernel, rfl, by decide +kernel, by decide +kernel⟩
theorem ok_wop {f C fI fE : Addr} {fd fdI : FuncData} (F : Fun K "_web_of_pairs" "_web_of_pairs" s_wop f fd) (W : WebC K mg C fI fE)
    (GI : FnOk P w K mg base CX0 5 fI fdI ["self", "many", "befores"] (sp_init K C)) (bI : Binds K fdI ["self", "many", "befores"] []) (B : Bl mg) : FnOk P w K mg base CX0 7 f fd ["many", "pairs"] (sp_wop K C) := by
  refine F.ok sc_wop (fun vs H Q E h => ?_) (fun cdv A outer s H vs Q E hr h => ?_)
  · obtain ⟨l, m, ks, rfl, _⟩ := h
    rfl
  · obtain ⟨l, m, ks, rfl, m1, m8, hl, hk, bd, nd, ok, q⟩ := h
    refine ⟨_, pss_one (ps_ret (pe_make W.mkr GI hr rfl W.g bI .nil pass0 (pa_cons (pv 0) (pa_cons (pe_callTy call_tuple_of (by rfl) B.tuple (by decide +kernel) (pa_cons (pe_callB (cr_sortT (d := 2) (B := 64) (by decide)) (by rfl) B.sorted (by decide +kernel) (pa_cons (pv 1) pa_nil)) pa_nil)) pa_nil)))), ?_⟩
    have few := few8 (kp ks) (bd.mono (by omega)) ok.ne nd
    rw [kp_length] at few
    refine ⟨_, rfl, _, rfl, ?_⟩
    dsimp only [tNil]
    refine rd_sort ⟨l, ks, rfl, hl, hk, by omega, ok.bd.mono (by decide), nd, fun zs zl pm zasc nzl => ?_⟩
    have s1 := same_new (o := .lst (kv zs)) nzl
    refine ⟨zl, _, rfl, .inl ⟨SqL.of upd_same, fun z nz => ?_⟩⟩
    have s2 := same_upd (o := .tup (kv zs)) s1 (none_of s1 nz)
    have pk : (kp zs).Perm (kp ks) := pm.map _
    have hk2 : KsAt K (upd (upd H zl (.lst (kv zs))) z (.tup (kv zs))) zs := fun k mk => (hk.same s2) k (pm.mem_iff.mp mk)
    have hB : Bef K (upd (upd H zl (.lst (kv zs))) z (.tup (kv zs))) m z zs := ⟨sqT_of upd_same, hk2, bd.sub fun p mp => pk.mem_iff.mp mp, fun p mp => ok.ne p (pk.mem_iff.mp mp), zasc⟩
    refine rd_make (C := C) hB (ok.sub fun p mp => pk.mem_iff.mp mp) m1 m8 fun x H' js sm nx wa cl => ?_
    exact q x H' js (s2.trans sm) (none_of s2 nx) wa (cl.congr fun p => pk.mem_iff)
end
end Ev

namespace Ev
open PySem L2
open C8 (pss_cut tCut InsC)
section
variable {P : Program} {w : World} {K : PySem.W.Frag} {mg : Str → Option Value} {base : Heap}
def sp_turned (K : PySem.W.Frag) (C : Addr) : Sp := fun vs H Q _ => ∃ (x : Addr) (m : Nat) (js : Kp), vs = [.ref x] ∧ WebAt K C H x m js ∧ 1 ≤ m ∧ m ≤ 8 ∧ RowsOk m (kp js) ∧
  ∀ y H' ts, Same H H' → H y = none → WebAt K C H' y m ts → RowsOk m (kp ts) → (∀ p, p ∈ kp ts ↔ swp p ∈ kp js) → Q (.ref y) H'
abbrev s_turned : Stmt := topS 27 -- @turned
abbrev n_turned : List Str := ["web", "one", "other"]
theorem sc_turned : FnScope n_turned ["web"] (defScope s_turned) := ⟨rfl, rfl, rfl, by decide +kernel, rfl, by decide +kernel, by decide +kernel⟩
theorem ok_turned {f C fI fE f1 : Addr} {fd fd1 : FuncData} (F : Fun K "turned" "turned" s_turned f fd) (W : WebC K mg C fI fE) (D1 : Df K mg "_web_of_pairs" s_wop ["many", "pairs"] f1 fd1)
    (G1 : FnOk P w K mg base CX0 7 f1 fd1 ["many", "pairs"] (sp_wop K C)) (B : Bl mg) : FnOk P w K mg base CX0 8 f fd ["web"] (sp_turned K C) := by
  refine F.ok sc_turned (fun vs H Q E h => ?_) (fun cdv A outer s H vs Q E hr h => ?_)
  · obtain ⟨x, m, js, rfl, _⟩ := h
    rfl
  · obtain ⟨x, m, js, rfl, wa, m1, m8, ro, q⟩ := h
    refine ⟨_, pss_one (ps_ret (pe_call G1 hr rfl D1.g D1.F.kp D1.b .nil pass0 (pa_cons (pe_fld (pv 0) rfl) (pa_cons (pe_lc (own := [("one", 1), ("other", 2)]) (g := (gTup K 2 (gCons (gName 1) (gCons (gName 2) gNil)))) (tt := tYes) (te := (tTup (tCons (tVar 2) (tCons (tVar 1) tNil)))) (by rfl) sc_turned.nd (pi_tup (pe_fld (pv 0) rfl)) (blkOk_by (N := n_turned) (sc := defScope s_turned) (by decide +kernel)) (fun _ _ _ _ _ => by exact pg_tup (by rfl) (pgs_cons (pg_name (i := 1) sc_turned.nd rfl (Or.inl rfl)) (pgs_cons (pg_name (i := 2) sc_turned.nd rfl (Or.inl rfl)) pgs_nil))) (fun _ _ _ _ _ => by exact pts_nil) (fun _ _ _ _ _ => by exact pe_tup (pa_cons (pv 2) (pa_cons (pv 1) pa_nil)))) pa_nil)))), ?_⟩
    obtain ⟨dx, z, hx, hz⟩ := wa.ob
    have few := ro.few
    rw [kp_length] at few
    refine ⟨_, rfl, x, C, dx, _, _, rfl, hx, W.ins.cl, W.nM, webF_many _ _, ?_⟩
    refine ⟨_, rfl, x, C, dx, _, _, rfl, hx, W.ins.cl, W.nB, webF_bef _ _, z, rfl, ⟨_, hz⟩, fun D nD => ?_⟩
    refine lc_tup (K := K) (a := z) (xs := kv js) (fun i H' => Same H H' ∧ ∃ ks : Kp, H' D = some (.lst (kv ks)) ∧ KsAt K H' ks ∧ kp ks = ((kp js).take i).map swp) ?_ ?_ ?_ ?_
    · exact ⟨same_new nD, [], upd_same, .nil, rfl⟩
    · rintro i H1 _ ⟨sm, _⟩
      exact sqT_same hz sm
    · rintro i y H1 hi ⟨sm, ks, hD, hk, ek⟩
      obtain ⟨⟨pa, y1, y2⟩, gk, rfl⟩ := get_kv hi
      have lk : ks.length ≤ 63 := by
        have e := congrArg List.length ek
        rw [kp_length, List.length_map, List.length_take, kp_length] at e
        omega
      refine ⟨pa, _, rfl, (wa.at_.same sm) _ (List.mem_of_getElem? gk), rfl, _, _, rfl, _, _, rfl, rfl, rfl, _, rfl, _, rfl, (by show 2 ≤ sizeLine; decide), fun p np => ?_⟩
      have pD : D ≠ p := ne_of_none hD np
      refine ⟨_, by rw [upd_ne pD]; exact hD, by rw [kv_length]; exact small64 (by omega), same_upd (same_upd sm (none_of sm np)) nD, ks ++ [(p, (y2, y1))], by rw [upd_same, kv_append]; rfl, ?_, ?_⟩
      · refine KsAt.keep (t := D) (ys := kv ks) (hk.snoc (q := (y2, y1)) np) ?_ (by rw [upd_ne pD]; exact hD)
        exact (Keep.refl D _).upd
      · rw [kp_append, take_snoc (kp_get gk), List.map_append, ek]
        rfl
    · rintro H1 ⟨sm, ks, hD, hk, ek⟩
      rw [kv_length, List.take_of_length_le (by rw [kp_length]; exact Nat.le_refl _)] at ek
      have okk : UpsOk (kp ks) := by
        rw [ek]
        exact ro.ok.swap
      refine ⟨D, m, ks, rfl, m1, m8, SqL.of hD, hk, by rw [ek]; exact ro.bd.swap, by rw [ek]; exact nodup_swap (asc_nodup ro.asc), okk, fun y H' ts sm2 ny wa' cl => ?_⟩
      have mem := cl.same (by rw [ek]; exact Trn.swap ro.tr)
      refine q y H' ts (sm.trans sm2) (none_of sm ny) wa' (.of_cl okk (by rw [ek]; exact ro.bd.swap) cl) fun p => ?_
      rw [mem p, ek]
      exact mem_swap
end
end Ev

namespace Ev
open PySem L2
open C8 (pss_cut tCut InsC)
section
variable {P : Program} {w : World} {K : PySem.W.Frag} {mg : Str → Option Value} {base : Heap}
abbrev s_law : Stmt := topS 45 -- @law
abbrev n_law : List Str := ["script", "tape", "many", "pairs", "web", "other", "rows", "name", "place", "due", "told", "mean", "means", "row"]
theorem sc_law : FnScope n_law ["script"] (defScope s_law) := ⟨rfl, rfl, rfl, by decide +kernel, rfl, by decide +kernel, by decide +kernel⟩
theorem ok_law {f C CN CP fI fE fT fP fQ fC fL fFe fF fU fX fS fO fH fM fBP fAr fFr fR fNo fWo fA fV fB f1 f2 f3 f4 f5 f6 f7 f8 f9 : Addr} {fd fdI fdT fdP fdQ fdC fdL fdFe fdF fdU fdX fdS fdO fdH fdM fdBP fdAr fdFr fdR fdNo fdWo fdA fdV fdB fd1 fd2 fd3 fd4 fd5 fd6 fd7 fd8 fd9 : FuncData} (F : Fun K "law" "law" s_law f fd) (W : WebC K mg C fI fE)
    (FI : Fun K "__init__" "Web.__init__" s_init fI fdI) (bI : Binds K fdI ["self", "many", "befores"] [])
    (DT : Df K mg "_law_tape" s_law_tape ["script"] fT fdT) (DP : Df K mg "_law_pick" s_law_pick ["tape", "many"] fP fdP) (DQ : Df K mg "_law_pairs" s_law_pairs ["tape", "many"] fQ fdQ) (DC : Df K mg "_law_closed" s_law_closed ["pairs"] fC fdC)
    (DL : Df K mg "_law_orders" s_lawO ["befores", "many"] fL fdL) (DFe : Df K mg "_law_free" s_free ["befores", "many", "row"] fFe fdFe) (DF : Df K mg "_law_low" s_low ["top", "bottom"] fF fdF) (DU : Df K mg "_law_plus" s_plus ["one", "other"] fU fdU)
    (DX : Df K mg "_law_times" s_times ["one", "other"] fX fdX) (DS : Df K mg "_law_sums" s_sums ["web", "many"] fS fdS) (DO : Df K mg "turned" s_turned ["web"] fO fdO)
    (DH : Df K mg "place_share" s_place ["web", "name", "place"] fH fdH) (DM : Df K mg "mean_place" s_mean ["web", "name"] fM fdM) (DBP : Df K mg "_orders_by_place" s_byPlace ["web", "name"] fBP fdBP) (DAr : Df K mg "_arrivals" s_arr ["needs"] fAr fdAr) (DFr : Df K mg "fraction" s_frac ["top", "bottom"] fFr fdFr)
    (DR : Df K mg "rests" s_rests ["needs"] fR fdR) (DNo : Df K mg "nexts_of" s_nexts ["needs"] fNo fdNo) (DWo : Df K mg "ways_on" s_wayson ["nexts"] fWo fdWo) (DA : Df K mg "ahead_bits" s_aheadB ["web"] fA fdA) (DV : Df K mg "comers" s_comers ["needs", "gone"] fV fdV) (DB : Df K mg "_web_of_pairs" s_wop ["many", "pairs"] fB fdB)
    (D1 : Df K mg "is_integer" s_isInt ["thing"] f1 fd1) (D2 : Df K mg "is_name" s_isName ["many", "thing"] f2 fd2) (D3 : Df K mg "is_ascending" s_isAsc ["items"] f3 fd3) (D4 : Df K mg "_is_before" s_isBef ["many", "thing"] f4 fd4)
    (D5 : Df K mg "_are_befores" s_areBef ["many", "thing"] f5 fd5) (D6 : Df K mg "_with_following" s_follow ["many", "befores"] f6 fd6) {fBB : Addr} {fdBB : FuncData} (DBB : Df K mg "befores_by" s_bby ["behind"] fBB fdBB) (D7 : Df K mg "lot_of" s_lotOf ["many", "bits"] f7 fd7) (D8 : Df K mg "closed_bits" s_closedB ["needs"] f8 fd8) (D9 : Df K mg "is_closed" s_isClosed ["needs", "bits"] f9 fd9)
    (EN : ErrC K mg "NoName" CN) (EP : ErrC K mg "NoPlace" CP) (gG : mg "gcd" = some (.builtin "math.gcd")) (gA : mg "abs" = none) (B : Bl mg) :
    FnOk P w K mg base CX0 9 f fd ["script"] (sp_law K) := by
  have GT : FnOk P w K mg base CX0 1 fT fdT ["script"] (sp_tape K) := ok_tape DT.F B
  have GP : FnOk P w K mg base CX0 1 fP fdP ["tape", "many"] (sp_pick K) := ok_pick DP.F B
  have GQ : FnOk P w K mg base CX0 2 fQ fdQ ["tape", "many"] (sp_pairs K) := ok_pairs DQ.F DP B
  have GC : FnOk P w K mg base CX0 1 fC fdC ["pairs"] (sp_closed K) := ok_closed DC.F B
  have GI : FnOk P w K mg base CX0 5 fI fdI ["self", "many", "befores"] (sp_init K C) := ok_init FI W D1 D2 D3 D4 D5 D6 DBB D7 B
  have GB : FnOk P w K mg base CX0 7 fB fdB ["many", "pairs"] (sp_wop K C) := ok_wop DB.F W GI bI B
  have GO : FnOk P w K mg base CX0 8 fO fdO ["web"] (sp_turned K C) := ok_turned DO.F W DB GB B
  have GV : FnOk P w K mg base CX0 1 fV fdV ["needs", "gone"] (sp_comers K) := ok_comers DV.F B
  have G9 : FnOk P w K mg base CX0 2 f9 fd9 ["needs", "bits"] (sp_isClosed K) := ok_isClosed D9.F D7 B
  have G8 : FnOk P w K mg base CX0 3 f8 fd8 ["needs"] (sp_closedB K) := ok_closedB D8.F D9 G9 B
  have GNo : FnOk P w K mg base CX0 4 fNo fdNo ["needs"] (sp_nexts K) := ok_nexts DNo.F DV GV D8 G8 B
  have GR : FnOk P w K mg base CX0 5 fR fdR ["needs"] (sp_rests K) := ok_rests DR.F DNo GNo DWo B
  have GA : FnOk P w K mg base CX0 1 fA fdA ["web"] (sp_aheadB K C) := ok_aheadB DA.F W B
  have GFr : FnOk P w K mg base CX0 1 fFr fdFr ["top", "bottom"] (sp_frac K) := ok_frac DFr.F gG
  have GAr : FnOk P w K mg base CX0 4 fAr fdAr ["needs"] (sp_arr K) := ok_arr DAr.F D8 G8 DV GV B
  have GBP : FnOk P w K mg base CX0 6 fBP fdBP ["web", "name"] (sp_byPlace K C) := ok_byPlace DBP.F W DA GA DR GR DAr GAr DV GV D7 B
  have GH : FnOk P w K mg base (L2N.CX P w) 7 fH fdH ["web", "name", "place"] (sp_place K C CN CP) := ok_place DH.F W EN EP D2 D1 DBP GBP DFr GFr B
  have GM : FnOk P w K mg base (L2N.CX P w) 7 fM fdM ["web", "name"] (sp_mean K C CN) := ok_mean DM.F W EN D2 D1 DBP GBP DFr GFr B
  have GL : FnOk P w K mg base CX0 2 fL fdL ["befores", "many"] (sp_lawOX K) := ok_lawOX DL.F DFe B
  have GF : FnOk P w K mg base CX0 1 fF fdF ["top", "bottom"] (sp_low K) := ok_low DF.F gA B
  have GU : FnOk P w K mg base CX0 2 fU fdU ["one", "other"] (sp_plus K) := ok_plus DU.F DF GF
  have GX : FnOk P w K mg base CX0 2 fX fdX ["one", "other"] (sp_times K) := ok_times DX.F DF GF
  have GS : FnOk P w K mg base CX0 8 fS fdS ["web", "many"] (sp_sums K C) := ok_sums DS.F DH GH DM GM DU GU DX GX B
  refine F.ok sc_law (fun vs H Q E h => ?_) (fun cdv A outer s H vs Q E hr h => ?_)
  · obtain ⟨a, ns, rfl, _⟩ := h
    rfl
  · obtain ⟨sa, ns, rfl, hS, hlen, q⟩ := h
    have hr1 : Room 1 _ := hr.mono (by decide)
    have hr2 : Room 2 _ := hr.mono (by decide)
    have hr6 : Room 6 _ := hr.mono (by decide)
    have hr7 : Room 7 _ := hr.mono (by decide)
    refine ⟨_, pss_cons (ps_set (i := 1) sc_law.nd rfl (Or.inl rfl) (pe_call GT (hr.mono (by decide)) rfl DT.g DT.F.kp DT.b .nil pass0 (pa_cons (pv 0) pa_nil)))
      (pss_cut (ps_if (PW.pt (pw_and (pt_cmpR op_eq (pe_call GP (hr.mono (by decide)) rfl DP.g DP.F.kp DP.b .nil pass0 (pa_cons (pv 1) (pa_cons (pe_int) pa_nil))) (pe_int) (nomark _)) (pw_and1 (pt_not (pt_val (pe_call GS (hr.mono (by decide)) rfl DS.g DS.F.kp DS.b .nil pass0 (pa_cons (pe_make W.mkr GI (hr.mono (by decide)) rfl W.g bI .nil pass0 (pa_cons (pe_int) (pa_cons (pe_call GQ (hr.mono (by decide)) rfl DQ.g DQ.F.kp DQ.b .nil pass0 (pa_cons (pv 1) (pa_cons (pe_int) pa_nil))) pa_nil))) (pa_cons (pe_int) pa_nil))))))))
        (pss_one (ps_ret (pe_bl)))
        (pss_nil))
      (pss_cons (ps_set (i := 2) sc_law.nd rfl (Or.inl rfl) (pe_op op_addN (pe_int) (pe_call GP (hr.mono (by decide)) rfl DP.g DP.F.kp DP.b .nil pass0 (pa_cons (pv 1) (pa_cons (pe_int) pa_nil)))))
      (pss_cons (ps_set (i := 3) sc_law.nd rfl (Or.inl rfl) (pe_call GQ (hr.mono (by decide)) rfl DQ.g DQ.F.kp DQ.b .nil pass0 (pa_cons (pv 1) (pa_cons (pv 2) pa_nil))))
      (pss_cons (ps_set (i := 4) sc_law.nd rfl (Or.inl rfl) (pe_make W.mkr GI (hr.mono (by decide)) rfl W.g bI .nil pass0 (pa_cons (pv 2) (pa_cons (pv 3) pa_nil))))
      (pss_cons (ps_set (i := 5) sc_law.nd rfl (Or.inl rfl) (pe_call GO (hr.mono (by decide)) rfl DO.g DO.F.kp DO.b .nil pass0 (pa_cons (pv 4) pa_nil)))
      (pss_cons (ps_set (i := 6) sc_law.nd rfl (Or.inl rfl) (pe_call GL (hr.mono (by decide)) rfl DL.g DL.F.kp DL.b .nil pass0 (pa_cons (pe_call GC (hr.mono (by decide)) rfl DC.g DC.F.kp DC.b .nil pass0 (pa_cons (pv 3) pa_nil)) (pa_cons (pv 2) pa_nil))))
      (pss_cut (ps_for PassesOwn.never rfl (pi_range1 (by rfl) B.range (pa_cons (pv 2) pa_nil)) (pg_name (i := 7) sc_law.nd rfl (Or.inr rfl))
        (pss_cut (ps_for PassesOwn.never rfl (pi_range1 (by rfl) B.range (pa_cons (pv 2) pa_nil)) (pg_name (i := 8) sc_law.nd rfl (Or.inr rfl))
          (pss_cons (ps_set (i := 9) sc_law.nd rfl (Or.inl rfl) (pe_call GF (hr.mono (by decide)) rfl DF.g DF.F.kp DF.b .nil pass0 (pa_cons (pe_callB call_len_seq (by rfl) B.len (by decide +kernel) (pa_cons (pe_lc (own := [("row", 13)]) (g := (gName 13)) (tt := (tTest (tOp rEq (tOp (rIxT K) (tVar 13) (tVar 8)) (tVar 7)))) (te := (tVar 13)) (by rfl) sc_law.nd (pi_list (pv 6)) (blkOk_by (N := n_law) (sc := defScope s_law) (by decide +kernel)) (fun _ _ _ _ _ => by exact pg_name (i := 13) sc_law.nd rfl (Or.inl rfl)) (fun _ _ _ _ _ => by exact pts_one (pt_cmpR op_eq (pe_ix ix_tup (pv 13) (pv 8) (fun _ _ => rfl)) (pv 7) (nomark _))) (fun _ _ _ _ _ => by exact pv 13)) pa_nil)) (pa_cons (pe_callB call_len_seq (by rfl) B.len (by decide +kernel) (pa_cons (pv 6) pa_nil)) pa_nil))))
          (pss_cons (ps_set (i := 10) sc_law.nd rfl (Or.inl rfl) (pe_callS GH (hr.mono (by decide)) rfl DH.g DH.F.kp DH.b (fun σ => L2N.passAt takes0N σ) (pa_cons (pv 4) (pa_cons (pv 7) (pa_cons (pv 8) pa_nil)))))
          (pss_one (ps_if (PW.pt (pw_or (pt_cmpR (op_neD hr.units) (pv 10) (pv 9) (nomark _)) (pw_or (pt_not (pt_val (pe_callB call_isi (by rfl) B.isinstance (by decide +kernel) (pa_cons (pv 10) (pa_cons (pe_bltn (v := .ty "tuple") (by rfl) B.tuple (by decide +kernel) rfl) pa_nil))))) (pw_or1 (pt_cmpR (op_neD hr.units) (pe_callS GH (hr.mono (by decide)) rfl DH.g DH.F.kp DH.b (fun σ => L2N.passAt takes0N σ) (pa_cons (pv 5) (pa_cons (pv 7) (pa_cons (pe_op op_sub (pe_op op_sub (pv 2) (pe_int)) (pv 8)) pa_nil)))) (pv 9) (nomark _))))))
            (pss_one (ps_ret (pe_bl)))
            (pss_nil))))))
        (pss_cons (ps_set (i := 11) sc_law.nd rfl (Or.inl rfl) (pe_call GF (hr.mono (by decide)) rfl DF.g DF.F.kp DF.b .nil pass0 (pa_cons (pe_callB (cr_sum rfl) (by rfl) B.sum (by decide +kernel) (pa_cons (pe_lc (own := [("row", 13)]) (g := (gName 13)) (tt := tYes) (te := (tBMF (rTupIx K) (tVar 13) (tCons (tVar 7) tNil))) (by rfl) sc_law.nd (pi_list (pv 6)) (blkOk_by (N := n_law) (sc := defScope s_law) (by decide +kernel)) (fun _ _ _ _ _ => by exact pg_name (i := 13) sc_law.nd rfl (Or.inl rfl)) (fun _ _ _ _ _ => by exact pts_nil) (fun _ _ _ _ _ => by exact pe_bmF PySem.F.plainAttrs_tuple PySem.F.slot_tuple_index PySem.F.type_tuple_index mt_tupIx (pv 13) (pa_cons (pv 7) pa_nil))) pa_nil)) (pa_cons (pe_callB call_len_seq (by rfl) B.len (by decide +kernel) (pa_cons (pv 6) pa_nil)) pa_nil))))
        (pss_one (ps_if (pt_cmpR (op_neD hr.units) (pe_callS GM (hr.mono (by decide)) rfl DM.g DM.F.kp DM.b (fun σ => L2N.passAt takes0N σ) (pa_cons (pv 4) (pa_cons (pv 7) pa_nil))) (pv 11) (nomark _))
          (pss_one (ps_ret (pe_bl)))
          (pss_nil))))))
      (pss_cons (ps_set (i := 12) sc_law.nd rfl (Or.inl rfl) (pe_tup (pa_cons (pe_int) (pa_cons (pe_int) pa_nil))))
      (pss_cut (ps_for PassesOwn.never rfl (pi_range1 (by rfl) B.range (pa_cons (pv 2) pa_nil)) (pg_name (i := 7) sc_law.nd rfl (Or.inr rfl))
        (pss_one (ps_set (i := 12) sc_law.nd rfl (Or.inl rfl) (pe_call GU (hr.mono (by decide)) rfl DU.g DU.F.kp DU.b .nil pass0 (pa_cons (pv 12) (pa_cons (pe_callS GM (hr.mono (by decide)) rfl DM.g DM.F.kp DM.b (fun σ => L2N.passAt takes0N σ) (pa_cons (pv 4) (pa_cons (pv 7) pa_nil))) pa_nil))))))
      (pss_one (ps_ret (pe_and (pe_cmpR (op_eqD hr.units) (pv 12) (pe_call GF (hr.mono (by decide)) rfl DF.g DF.F.kp DF.b .nil pass0 (pa_cons (pe_op op_fdivN (pe_op op_mul (pv 2) (pe_op op_sub (pv 2) (pe_int))) (pe_int)) (pa_cons (pe_int) pa_nil))) (nomark _)) (pe_one (pe_call GS (hr.mono (by decide)) rfl DS.g DS.F.kp DS.b .nil pass0 (pa_cons (pv 4) (pa_cons (pv 2) pa_nil)))))))))))))))), ?_⟩
    -- tape
    refine ⟨_, rfl, sa, ns, rfl, hS, fun t l H1 nl nt ntl T1 keep1 => ?_⟩
    refine ⟨fun σ' H' => σ' = [some (.ref sa), some (.ref t), none, none, none, none, none, none, none, none, none, none, none, none] ∧ TapeAt H' t l ns, ?_, ?_⟩
    · refine ⟨_, rfl, t, l, ns, 6, rfl, T1, by decide, by decide, fun v o v1 ho => ⟨rfl, _, rfl, ?_⟩⟩
      have T2 := T1.put ho
      generalize upd H1 t o = H2 at T2 ⊢
      refine ite2 (fun _ => ?_) (fun _ => iteF ⟨rfl, T2⟩)
      refine ⟨_, rfl, t, l, ns, 8, rfl, T2, by decide, by decide, fun p ks H5 k5 T5 np hp hk dr => ?_⟩
      have ok : UpsOk (kp ks) := dr.ok (by decide)
      have hB : Bef K H5 ((8 : Nat) : Int) p ks := ⟨sqT_of hp, hk, dr.bd, ok.ne, dr.asc⟩
      refine rd_make (C := C) (m := 8) hB ok (by decide) (by decide) fun x H7 js sm7 nx wa cl => ?_
      have ro : RowsOk 8 (kp js) := .of_cl ok dr.bd cl
      refine ⟨x, 8, js, rfl, wa, by decide, by decide, ro, fun H8 sm8 => ⟨_, rfl, iteF ⟨rfl, T5.keepNew (sm7.trans sm8)⟩⟩⟩
    rintro σ' H2 ⟨rfl, T2⟩
    clear T1 keep1 nl nt
    -- many, pairs, web, other
    refine ⟨_, rfl, t, l, ns, 6, rfl, T2, by decide, by decide, fun v o v1 ho => ⟨1, v, rfl, rfl, ?_⟩⟩
    have T4 := T2.put ho
    have m1 : 1 ≤ 1 + v := by omega
    have m6 : 1 + v ≤ 6 := by omega
    generalize 1 + v = m at m1 m6 ⊢
    have m8 : m ≤ 8 := by omega
    generalize upd H2 t o = H4 at T4 ⊢
    clear T2 v1 ho
    refine ⟨_, rfl, _, rfl, t, l, ns, m, rfl, T4, m1, m8, fun p ks H5 k5 T5 np hp hk dr => ?_⟩
    have ok : UpsOk (kp ks) := dr.ok m8
    have hB : Bef K H5 m p ks := ⟨sqT_of hp, hk, dr.bd, ok.ne, dr.asc⟩
    refine ⟨_, rfl, _, rfl, ?_⟩
    refine rd_make (C := C) hB ok m1 m8 fun x H6 js sm6 nx wa cl => ?_
    have ro : RowsOk m (kp js) := .of_cl ok dr.bd cl
    refine ⟨_, rfl, x, m, js, rfl, wa, m1, m8, ro, fun y H7 ts sm7 ny wy oy ey => ?_⟩
    have wa7 := wa.same sm7
    have sm57 := sm6.trans sm7
    -- rows
    refine ⟨_, rfl, p, ks, rfl, .inr (hB.same sm57).tup, (hB.same sm57).at_, ok, fun ev es H8 sm8 nev hev hke cle => ?_⟩
    have ees : kp js = kp es := cl.uniq cle
    refine ⟨_, rfl, ev, m, es, rfl, sqT_of hev, hke, ?_, m8, by rw [← ees]; exact ro.bd, fun H9 rl rs sm9 nl9 hrl hrs ers => ?_⟩
    · have few := ro.few
      rw [ees, kp_length] at few
      omega
    have ers : lvp rs = ordersL m (kp js) := by rw [ers, ees]
    have sm79 := sm8.trans sm9
    have wa9 := wa7.same sm79
    have wy9 := wy.same sm79
    clear T4 k5 T5 np hp hk hB sm6 nx wa sm7 ny wy wa7 sm57 sm8 nev hev hke sm9 nl9 sm79
    obtain ⟨T, eT⟩ : ∃ T, T = (ordersL m (kp js)).length := ⟨_, rfl⟩
    have eT2 : (ordersL m (kp ts)).length = T := by rw [eT]; exact orders_revN ro.bd oy.bd ey
    have pos : 0 < T := by rw [eT]; exact orders_pos ro
    have leT : T ≤ 40320 := by rw [eT]; exact Nat.le_trans orders_fct (fct_le8 m8)
    have big : (40320 * 1000 : Nat) < 2 ^ 40 := by decide
    have big2 : (2 : Nat) ^ 40 < 2 ^ 100 := by decide
    have lenR : (lvv rs).length = T := by rw [lvv_lenX, ← lvp_lenX rs, ers, ← eT]
    have lp : ∀ (k : Int) (p : Nat), placeN m (kp js) k p ≤ T := fun k p => by rw [eT]; exact place_le k p
    have lm : ∀ k : Nat, meanN m (kp js) k ≤ 64 * T := fun k => by
      rw [← mean_to]
      have : ∀ i, i ≤ 8 → sumTo (fun p => p * placeN m (kp js) k p) i ≤ i * (8 * T) := fun i => by
        induction i with
        | zero => exact fun _ => Nat.zero_le _
        | succ i ih =>
          intro h
          rw [sumTo_succ, Nat.succ_mul]
          have := ih (by omega)
          have h2 : i * placeN m (kp js) k i ≤ 8 * T := Nat.mul_le_mul (by omega) (lp k i)
          omega
      have h1 := this m (by omega)
      have h2 : m * (8 * T) ≤ 8 * (8 * T) := Nat.mul_le_mul_right _ (by omega)
      omega
    -- for name in range(many)
    refine ⟨fun σ' H' => ∃ v7 v8 v9 v10 v11 : Option V, σ' = [some (.ref sa), some (.ref t), some (.int m), some (.ref p), some (.ref x), some (.ref y), some (.ref rl), v7, v8, v9, v10, v11, none, none] ∧ Same H9 H', ?_, ?_⟩
    · refine ⟨_, rfl, m, rfl, by omega, by omega, for_range (lo := 0) (n := m) (fun i σ' H' => ∃ v7 v8 v9 v10 v11 : Option V, σ' = [some (.ref sa), some (.ref t), some (.int m), some (.ref p), some (.ref x), some (.ref y), some (.ref rl), v7, v8, v9, v10, v11, none, none] ∧ Same H9 H') ?_ ?_ ?_⟩
      · exact ⟨none, none, none, none, none, rfl, Same.refl _⟩
      · rintro i σ' HA hi ⟨v7, v8, v9, v10, v11, rfl, smA⟩
        rw [Int.zero_add]
        have bi : (0 : Int) ≤ (i : Int) ∧ (i : Int) < (m : Int) := ⟨by omega, by omega⟩
        refine ⟨fun σ' H' => ∃ v8 v9 v10 : Option V, σ' = [some (.ref sa), some (.ref t), some (.int m), some (.ref p), some (.ref x), some (.ref y), some (.ref rl), some (.int (i : Int)), v8, v9, v10, v11, none, none] ∧ Same H9 H', ?_, ?_⟩
        · refine ⟨_, rfl, m, rfl, by omega, by omega, for_range (lo := 0) (n := m) (fun j σ' H' => ∃ v8 v9 v10 : Option V, σ' = [some (.ref sa), some (.ref t), some (.int m), some (.ref p), some (.ref x), some (.ref y), some (.ref rl), some (.int (i : Int)), v8, v9, v10, v11, none, none] ∧ Same H9 H') ?_ ?_ ?_⟩
          · exact ⟨v8, v9, v10, rfl, smA⟩
          · rintro j σ' HB hj ⟨w8, w9, w10, rfl, smB⟩
            rw [Int.zero_add]
            -- due
            refine ⟨_, rfl, rl, rfl, ⟨_, SqL.of (smB _ _ hrl)⟩, fun D nD => ?_⟩
            refine lc_list (K := K) (a := rl) (xs := lvv rs) (fun k H' => Same HB H' ∧ ∃ ys : List V, H' D = some (.lst ys) ∧ ys.length = (((lvp rs).take k).filter fun row => decide (row[j]? = some (i : Int))).length) ?_ ?_ ?_ ?_
            · exact ⟨same_new nD, [], upd_same, rfl⟩
            · rintro k H' _ ⟨sm, _⟩
              exact SqL.of ((smB.trans sm) _ _ hrl)
            · rintro k y' H' hk ⟨sm, ys, hD, ly⟩
              obtain ⟨⟨pa, row⟩, gk, rfl⟩ := lv_itemX hk
              have grow := lv_rowX gk
              have mrow : row ∈ ordersL m (kp js) := by
                rw [← ers]
                exact List.mem_of_getElem? grow
              have O := (mem_orders ro.bd).mp mrow
              have lr := O.ro.len
              have hq : SqT K H' pa (row.map V.int) := ((hrs _ (List.mem_of_getElem? gk)).same (smB.trans sm)).sqT
              have gj : row[j]? = some (row[j]'(by omega)) := List.getElem?_eq_getElem _
              generalize row[j]'(by omega) = a at gj
              refine ⟨rfl, _, rfl, _, rfl, pa, _, (j : Int), _, rfl, rfl, hq, (show atI (row.map V.int) (j : Int) = some (V.int a) from atI_nat (by rw [List.getElem?_map, gj]; rfl)), _, rfl, rfl, _, rfl, ?_⟩
              rw [take_snoc grow, List.filter_append, List.length_append]
              have ed : decide (V.int a = V.int (i : Int)) = decide (row[j]? = some (i : Int)) := decide_eq_decide.mpr (by
                rw [gj]
                exact ⟨fun e => by rw [V.int.inj e], fun e => by rw [Option.some.inj e]⟩)
              rw [ed]
              cases hp : decide (row[j]? = some (i : Int)) with
              | true =>
                rw [List.filter_cons_of_pos (by exact hp)]
                refine iteT ⟨_, rfl, _, hD, ?_, same_upd sm nD, ys ++ [V.ref pa], upd_same, ?_⟩
                · have h1 : ys.length ≤ (lvp rs).length := by
                    rw [ly]
                    exact Nat.le_trans (List.length_filter_le _ _) (by rw [List.length_take]; exact Nat.min_le_right _ _)
                  rw [ers, ← eT] at h1
                  exact lt_sizeX (by omega)
                · rw [List.length_append, ly]
                  rfl
              | false =>
                rw [List.filter_cons_of_neg (by rw [hp]; exact Bool.false_ne_true)]
                exact iteF ⟨sm, ys, hD, by rw [ly]; rfl⟩
            rintro HE ⟨smE, ys, hD, ly⟩
            rw [lvv_lenX, ← lvp_lenX rs, List.take_length, ers] at ly
            have ly : ys.length = placeN m (kp js) (i : Int) j := ly
            have lij := lp (i : Int) j
            refine ⟨D, _, rfl, .inl (SqL.of hD), _, rfl, rl, _, rfl, .inl (SqL.of ((smB.trans smE) _ _ hrl)), ?_⟩
            rw [ly, lenR]
            refine ⟨_, _, rfl, pos, by omega, by omega, fun HF u smF nu hu => ?_⟩
            have hu : FrX K HF u (frN (placeN m (kp js) (i : Int) j) T) := sqT_of hu
            have sBF := smE.trans smF
            have s9F := smB.trans sBF
            clear hD ly smE smF nu nD sBF
            -- told
            refine ⟨_, rfl, _, rfl, _, rfl, ?_⟩
            refine ⟨x, .int (i : Int), .int (j : Int), m, js, some (i : Int), some (j : Int), rfl, wa9.same s9F, m1, m8, ro, .int _, .int _, mn_noX hi, fun _ => mn_noX hj, fun k p ek ep _ _ HG z smG nz hz => ?_⟩
            rw [nat_ofX ek, nat_ofX ep, ← eT] at hz
            have hz : FrX K HG z (frN (placeN m (kp js) (i : Int) j) T) := sqT_of hz
            have hu := sqT_same hu smG
            have s9G := s9F.trans smG
            refine ⟨_, rfl, _, rfl, _, _, dp_intD hz, dp_intD hu, shaped_intD _, shaped_intD _, false, by rw [eqv_intDG, decide_eq_true rfl]; rfl, iteF ?_⟩
            refine ⟨_, rfl, _, _, _, _, _, rfl, .ty _, tyT hz, kit_ty (by decide +kernel), true, rfl, iteF ?_⟩
            refine ⟨_, rfl, _, rfl, _, rfl, _, _, rfl, rfl, _, rfl, _, _, rfl, rfl, ?_⟩
            have ej : (m : Int) - 1 - (j : Int) = ((m - 1 - j : Nat) : Int) := by omega
            have hj2 : m - 1 - j < m := by omega
            refine ⟨y, .int (i : Int), .int ((m : Int) - 1 - (j : Int)), m, ts, some (i : Int), some ((m - 1 - j : Nat) : Int), rfl, wy9.same s9G, m1, m8, oy, .int _, by rw [ej]; exact .int _, mn_noX hi, fun _ => mn_noX hj2, fun k p ek ep _ _ HI z2 smI nz2 hz2 => ?_⟩
            rw [nat_ofX ek, nat_ofX ep, eT2, place_rev ro.bd oy.bd ey hj] at hz2
            have hz2 : FrX K HI z2 (frN (placeN m (kp js) (i : Int) j) T) := sqT_of hz2
            refine ⟨_, rfl, _, _, dp_intD hz2, dp_intD (sqT_same hu smI), shaped_intD _, shaped_intD _, false, by rw [eqv_intDG, decide_eq_true rfl]; rfl, iteF ?_⟩
            exact ⟨_, _, _, rfl, s9G.trans smI⟩
          · rintro σ' HB ⟨w8, w9, w10, rfl, smB⟩
            exact ⟨w8, w9, w10, rfl, smB⟩
        rintro σ' HB ⟨w8, w9, w10, rfl, smB⟩
        clear smA
        -- mean
        refine ⟨_, rfl, rl, rfl, ⟨_, SqL.of (smB _ _ hrl)⟩, fun D nD => ?_⟩
        refine lc_list (K := K) (a := rl) (xs := lvv rs) (fun k H' => Same HB H' ∧ H' D = some (.lst ((((lvp rs).take k).map fun row => ((plc row (i : Int) : Nat) : Int)).map V.int))) ?_ ?_ ?_ ?_
        · exact ⟨same_new nD, upd_same⟩
        · rintro k H' _ ⟨sm, _⟩
          exact SqL.of ((smB.trans sm) _ _ hrl)
        · rintro k y' H' hk ⟨sm, hD⟩
          obtain ⟨⟨pa, row⟩, gk, rfl⟩ := lv_itemX hk
          have grow := lv_rowX gk
          have mrow : row ∈ ordersL m (kp js) := by
            rw [← ers]
            exact List.mem_of_getElem? grow
          have O := (mem_orders ro.bd).mp mrow
          obtain ⟨ob, hob, hc, hd⟩ := (hrs _ (List.mem_of_getElem? gk)).same (smB.trans sm)
          have hq : SqT K H' pa (row.map V.int) := .inl (.inr ⟨ob, hob⟩)
          refine ⟨rfl, _, rfl, ⟨pa, ob, _, rfl, hob, hc, hd⟩, _, rfl, pa, row, (i : Int), rfl, rfl, hq, O.ro.all bi.1 bi.2, ?_⟩
          refine ⟨_, hD, ?_, same_upd sm nD, ?_⟩
          · rw [List.length_map, List.length_map]
            have h1 : ((lvp rs).take k).length ≤ (lvp rs).length := by
              rw [List.length_take]
              exact Nat.min_le_right _ _
            rw [ers, ← eT] at h1
            exact lt_sizeX (by rw [ers]; omega)
          · rw [upd_same, take_snoc grow, List.map_append, List.map_append]
            rfl
        rintro HE ⟨smE, hD⟩
        rw [lvv_lenX, ← lvp_lenX rs, List.take_length, ers] at hD
        have es : (((ordersL m (kp js)).map fun row => ((plc row (i : Int) : Nat) : Int)).sum) = ((meanN m (kp js) i : Nat) : Int) := by
          rw [mean_plc ro.bd hi]
          generalize ordersL m (kp js) = L
          induction L with
          | nil => rfl
          | cons a L ih => rw [List.map_cons, List.sum_cons, ih, List.map_cons, List.sum_cons]; omega
        have li := lm i
        refine ⟨D, _, rfl, SqL.of hD, _, rfl, rl, _, rfl, .inl (SqL.of ((smB.trans smE) _ _ hrl)), ?_⟩
        rw [es, lenR]
        refine ⟨_, _, rfl, pos, by omega, by omega, fun HF u smF nu hu => ?_⟩
        have hu : FrX K HF u (frN (meanN m (kp js) i) T) := sqT_of hu
        have s9F := smB.trans (smE.trans smF)
        refine ⟨_, rfl, _, rfl, ?_⟩
        refine ⟨x, .int (i : Int), m, js, some (i : Int), rfl, wa9.same s9F, m1, m8, ro, .int _, mn_noX hi, fun k ek _ HG z smG nz hz => ?_⟩
        rw [nat_ofX ek, ← eT] at hz
        have hz : FrX K HG z (frN (meanN m (kp js) i) T) := sqT_of hz
        refine ⟨_, rfl, _, _, dp_intD hz, dp_intD (sqT_same hu smG), shaped_intD _, shaped_intD _, false, by rw [eqv_intDG, decide_eq_true rfl]; rfl, iteF ?_⟩
        exact ⟨_, _, _, _, _, rfl, s9F.trans smG⟩
      · rintro σ' HA ⟨v7, v8, v9, v10, v11, rfl, smA⟩
        exact ⟨v7, v8, v9, v10, v11, rfl, smA⟩
    rintro σ' HA ⟨v7, v8, v9, v10, v11, rfl, smA⟩
    -- means
    refine ⟨(by show 2 ≤ sizeLine; decide), fun p0 np0 => ?_⟩
    have s0 := same_new (o := .tup [.int 0, .int 1]) np0
    have hp0 : FrX K (upd HA p0 (.tup [.int 0, .int 1])) p0 (frN 0 T) := by
      rw [frN_zero pos]
      exact sqT_of upd_same
    have smB := smA.trans s0
    generalize upd HA p0 (.tup [.int 0, .int 1]) = HB at s0 hp0 smB ⊢
    clear smA np0 s0
    have ls : ∀ i, i ≤ m → sumTo (fun k => meanN m (kp js) k) i ≤ 8 * (64 * T) := fun i hi => Nat.le_trans (sumTo_le (fun j => lm j) i) (Nat.mul_le_mul_right _ (by omega))
    refine ⟨fun σ' H' => ∃ (mp : Addr) (w7 : Option V), σ' = [some (.ref sa), some (.ref t), some (.int m), some (.ref p), some (.ref x), some (.ref y), some (.ref rl), w7, v8, v9, v10, v11, some (.ref mp), none] ∧ Same H9 H' ∧ FrX K H' mp (frN (sumTo (fun k => meanN m (kp js) k) m) T), ?_, ?_⟩
    · refine ⟨_, rfl, m, rfl, by omega, by omega, for_range (lo := 0) (n := m) (fun i σ' H' => ∃ (mp : Addr) (w7 : Option V), σ' = [some (.ref sa), some (.ref t), some (.int m), some (.ref p), some (.ref x), some (.ref y), some (.ref rl), w7, v8, v9, v10, v11, some (.ref mp), none] ∧ Same H9 H' ∧ FrX K H' mp (frN (sumTo (fun k => meanN m (kp js) k) i) T)) ?_ ?_ ?_⟩
      · exact ⟨p0, v7, rfl, smB, hp0⟩
      · rintro i σ' HC hi ⟨mp, w7, rfl, smC, hmp⟩
        rw [Int.zero_add]
        have li := lm i
        have lsi := ls i (by omega)
        refine ⟨_, rfl, _, rfl, _, rfl, ?_⟩
        refine ⟨x, .int (i : Int), m, js, some (i : Int), rfl, wa9.same smC, m1, m8, ro, .int _, mn_noX hi, fun k ek _ HG z smG nz hz => ?_⟩
        rw [nat_ofX ek, ← eT] at hz
        have hz : FrX K HG z (frN (meanN m (kp js) i) T) := sqT_of hz
        obtain ⟨n1, d1, n2, d2, f1, f2, p1, p2, q1, q2, q3, q4, ef⟩ := plus_partsX pos (by omega) (by omega) (by omega) (sqT_same hmp smG) hz
        refine ⟨mp, z, n1, d1, n2, d2, rfl, f1, f2, p1, p2, q1, q2, q3, q4, fun HI y4 smI ny4 hy4 => ?_⟩
        rw [ef, ← sumTo_succ (fun k => meanN m (kp js) k) i] at hy4
        exact ⟨y4, _, rfl, smC.trans (smG.trans smI), sqT_of hy4⟩
      · rintro σ' HC ⟨mp, w7, rfl, smC, hmp⟩
        exact ⟨mp, w7, rfl, smC, hmp⟩
    rintro σ' HC ⟨mp, w7, rfl, smC, hmp⟩
    rw [means_all ro.bd, ← eT, range_sum8 m8] at hmp
    have mm : m * (m - 1) ≤ 6 * 5 := Nat.mul_le_mul m6 (by omega)
    refine ⟨_, rfl, _, rfl, _, rfl, _, _, rfl, rfl, _, _, rfl, rfl, .inl ⟨by omega, by omega⟩, _, _, rfl, rfl, ⟨by decide, by decide⟩, ?_⟩
    have ed : ((m : Int) * ((m : Int) - 1)).fdiv 2 = ((m * (m - 1) / 2 : Nat) : Int) := by
      rw [Int.fdiv_eq_ediv_of_nonneg _ (by decide)]
      have : ((m : Int) - 1) = ((m - 1 : Nat) : Int) := by omega
      rw [this]
      push_cast
      rfl
    refine ⟨m * (m - 1) / 2, 1, by show [V.int (((m : Int) * ((m : Int) - 1)).fdiv 2), V.int 1] = _; rw [ed]; rfl, by decide, by omega, by decide, fun HF u smF nu hu => ?_⟩
    have hu : FrX K HF u (frN (m * (m - 1) / 2) 1) := sqT_of hu
    have e2 : frN (m * (m - 1) / 2 * T) T = frN (m * (m - 1) / 2) 1 := (frN_eq pos (by decide)).mpr (by rw [Nat.mul_one])
    rw [e2] at hmp
    refine ⟨_, _, dp_intD (sqT_same hmp smF), dp_intD hu, shaped_intD _, shaped_intD _, ?_⟩
    rw [eqv_intDG, decide_eq_true rfl]
    refine ⟨_, rfl, iteT ⟨_, rfl, _, rfl, x, m, js, rfl, wa9.same (smC.trans smF), m1, m8, ro, fun H8 sm8 => q _⟩⟩
end
end Ev

namespace Ev
open PySem L2
open C8 (InsC)
theorem all_mk {l : PySem.W.OpenLaw} {w : World} {K : PySem.W.Frag} {h : Heap} {mg : Str → Option Value} {fa : Addr} (X : K.In h) (G : h.Ns mainGlobals mg) (hfa : mg "law" = some (.ref fa))
    {f0 : Addr} {od0 an0 : Option Addr} {sl0 : Array (Option Value)} {oc0 kV0 dc0 pm0 cd0 ct0 : Value}
    {f1 : Addr} {od1 an1 : Option Addr} {sl1 : Array (Option Value)} {oc1 kV1 dc1 pm1 cd1 ct1 : Value}
    {f2 : Addr} {od2 an2 : Option Addr} {sl2 : Array (Option Value)} {oc2 kV2 dc2 pm2 cd2 ct2 : Value}
    {f3 : Addr} {od3 an3 : Option Addr} {sl3 : Array (Option Value)} {oc3 kV3 dc3 pm3 cd3 ct3 : Value}
    {f4 : Addr} {od4 an4 : Option Addr} {sl4 : Array (Option Value)} {oc4 kV4 dc4 pm4 cd4 ct4 : Value}
    {f5 : Addr} {od5 an5 : Option Addr} {sl5 : Array (Option Value)} {oc5 kV5 dc5 pm5 cd5 ct5 : Value}
    {f6 : Addr} {od6 an6 : Option Addr} {sl6 : Array (Option Value)} {oc6 kV6 dc6 pm6 cd6 ct6 : Value}
    {f7 : Addr} {od7 an7 : Option Addr} {sl7 : Array (Option Value)} {oc7 kV7 dc7 pm7 cd7 ct7 : Value}
    {f8 : Addr} {od8 an8 : Option Addr} {sl8 : Array (Option Value)} {oc8 kV8 dc8 pm8 cd8 ct8 : Value}
    {f9 : Addr} {od9 an9 : Option Addr} {sl9 : Array (Option Value)} {oc9 kV9 dc9 pm9 cd9 ct9 : Value}
    {f10 : Addr} {od10 an10 : Option Addr} {sl10 : Array (Option Value)} {oc10 kV10 dc10 pm10 cd10 ct10 : Value}
    {f11 : Addr} {od11 an11 : Option Addr} {sl11 : Array (Option Value)} {oc11 kV11 dc11 pm11 cd11 ct11 : Value}
    {f12 : Addr} {od12 an12 : Option Addr} {sl12 : Array (Option Value)} {oc12 kV12 dc12 pm12 cd12 ct12 : Value}
    {f13 : Addr} {od13 an13 : Option Addr} {sl13 : Array (Option Value)} {oc13 kV13 dc13 pm13 cd13 ct13 : Value}
    {f14 : Addr} {od14 an14 : Option Addr} {sl14 : Array (Option Value)} {oc14 kV14 dc14 pm14 cd14 ct14 : Value}
    {f15 : Addr} {od15 an15 : Option Addr} {sl15 : Array (Option Value)} {oc15 kV15 dc15 pm15 cd15 ct15 : Value}
    {f16 : Addr} {od16 an16 : Option Addr} {sl16 : Array (Option Value)} {oc16 kV16 dc16 pm16 cd16 ct16 : Value}
    {f17 : Addr} {od17 an17 : Option Addr} {sl17 : Array (Option Value)} {oc17 kV17 dc17 pm17 cd17 ct17 : Value}
    {f18 : Addr} {od18 an18 : Option Addr} {sl18 : Array (Option Value)} {oc18 kV18 dc18 pm18 cd18 ct18 : Value}
    {f19 : Addr} {od19 an19 : Option Addr} {sl19 : Array (Option Value)} {oc19 kV19 dc19 pm19 cd19 ct19 : Value}
    {f20 : Addr} {od20 an20 : Option Addr} {sl20 : Array (Option Value)} {oc20 kV20 dc20 pm20 cd20 ct20 : Value}
    {f21 : Addr} {od21 an21 : Option Addr} {sl21 : Array (Option Value)} {oc21 kV21 dc21 pm21 cd21 ct21 : Value}
    {f22 : Addr} {od22 an22 : Option Addr} {sl22 : Array (Option Value)} {oc22 kV22 dc22 pm22 cd22 ct22 : Value}
    {f23 : Addr} {od23 an23 : Option Addr} {sl23 : Array (Option Value)} {oc23 kV23 dc23 pm23 cd23 ct23 : Value}
    {f24 : Addr} {od24 an24 : Option Addr} {sl24 : Array (Option Value)} {oc24 kV24 dc24 pm24 cd24 ct24 : Value}
    {f25 : Addr} {od25 an25 : Option Addr} {sl25 : Array (Option Value)} {oc25 kV25 dc25 pm25 cd25 ct25 : Value}
    {f26 : Addr} {od26 an26 : Option Addr} {sl26 : Array (Option Value)} {oc26 kV26 dc26 pm26 cd26 ct26 : Value}
    {f27 : Addr} {od27 an27 : Option Addr} {sl27 : Array (Option Value)} {oc27 kV27 dc27 pm27 cd27 ct27 : Value}
    {f28 : Addr} {od28 an28 : Option Addr} {sl28 : Array (Option Value)} {oc28 kV28 dc28 pm28 cd28 ct28 : Value}
    {f29 : Addr} {od29 an29 : Option Addr} {sl29 : Array (Option Value)} {oc29 kV29 dc29 pm29 cd29 ct29 : Value}
    {f30 : Addr} {od30 an30 : Option Addr} {sl30 : Array (Option Value)} {oc30 kV30 dc30 pm30 cd30 ct30 : Value}
    {f31 : Addr} {od31 an31 : Option Addr} {sl31 : Array (Option Value)} {oc31 kV31 dc31 pm31 cd31 ct31 : Value}
    {f32 : Addr} {od32 an32 : Option Addr} {sl32 : Array (Option Value)} {oc32 kV32 dc32 pm32 cd32 ct32 : Value}
    {f33 : Addr} {od33 an33 : Option Addr} {sl33 : Array (Option Value)} {oc33 kV33 dc33 pm33 cd33 ct33 : Value}
    {f34 : Addr} {od34 an34 : Option Addr} {sl34 : Array (Option Value)} {oc34 kV34 dc34 pm34 cd34 ct34 : Value}
    {C : Addr} {tN : Tok}
    {CN CP : Addr}
    (aC : PySem.W.nsIn K mainGlobals "Web" = some (some (.ref C)))
    (aN : PySem.W.nsIn K mainGlobals "MOST_NAMES" = some (some (.int 8 tN)))
    (pg : PySem.W.plainGet K C Str.empty = true)
    (hd : PySem.W.hasDictIn K C = true)
    (po : PySem.W.plainOver K C = true)
    (sa : PySem.W.findIn K (.ref C) "__setattr__" = some (some (.builtin "object.__setattr__")))
    (wm : PySem.W.makesIn K C = true)
    (wk : PySem.W.keepIn K (.ref C) = true)
    (iha : PySem.W.findIn K (.ref C) "__class__" = some (some (.builtin "object.__class__")))
    (ihn : PySem.W.specialIn K (.builtin "object.__class__") "__get__" = some (some (.builtin "getset_descriptor.__get__")))
    (iht : PySem.W.takesIn K (.builtin "object.__class__") = some true)
    (ihm : PySem.W.mroIn K C (.type "object") = some true)
    (iC : PySem.W.isClsIn K C = true)
    (tC : PySem.W.typeIn K (.ref C) = some (.type "type"))
    (nM : PySem.W.findIn K (.ref C) "many" = some none)
    (nB : PySem.W.findIn K (.ref C) "befores" = some none)
    (wne : PySem.W.findIn K (.ref C) "__ne__" = some (some (.builtin "object.__ne__")))
    (a0 : PySem.W.nsIn K mainGlobals "law" = some (some (.ref f0)))
    (l0 : K.lookup f0 = some ⟨oc0, od0, .func (PySem.W.fnOf "law" "law" (defArgs s_law) (defBody s_law) (defScope s_law) .none kV0 dc0 pm0 an0 cd0 ct0), sl0⟩) (c0 : PySem.W.codeIn K cd0 "law" = true) (k0 : PySem.W.keepIn K (.ref f0) = true)
    (a1 : PySem.W.findIn K (.ref C) "__init__" = some (some (.ref f1))) (i1 : PySem.W.isFn K (.ref f1) = true)
    (l1 : K.lookup f1 = some ⟨oc1, od1, .func (PySem.W.fnOf "__init__" "Web.__init__" (defArgs s_init) (defBody s_init) (defScope s_init) .none kV1 dc1 pm1 an1 cd1 ct1), sl1⟩) (c1 : PySem.W.codeIn K cd1 "Web.__init__" = true) (k1 : PySem.W.keepIn K (.ref f1) = true)
    (a2 : PySem.W.findIn K (.ref C) "__eq__" = some (some (.ref f2))) (i2 : PySem.W.isFn K (.ref f2) = true)
    (l2 : K.lookup f2 = some ⟨oc2, od2, .func (PySem.W.fnOf "__eq__" "Web.__eq__" (defArgs s_eq) (defBody s_eq) (defScope s_eq) .none kV2 dc2 pm2 an2 cd2 ct2), sl2⟩) (c2 : PySem.W.codeIn K cd2 "Web.__eq__" = true) (k2 : PySem.W.keepIn K (.ref f2) = true)
    (a3 : PySem.W.nsIn K mainGlobals "_law_tape" = some (some (.ref f3)))
    (l3 : K.lookup f3 = some ⟨oc3, od3, .func (PySem.W.fnOf "_law_tape" "_law_tape" (defArgs s_law_tape) (defBody s_law_tape) (defScope s_law_tape) .none kV3 dc3 pm3 an3 cd3 ct3), sl3⟩) (c3 : PySem.W.codeIn K cd3 "_law_tape" = true) (k3 : PySem.W.keepIn K (.ref f3) = true)
    (a4 : PySem.W.nsIn K mainGlobals "_law_pick" = some (some (.ref f4)))
    (l4 : K.lookup f4 = some ⟨oc4, od4, .func (PySem.W.fnOf "_law_pick" "_law_pick" (defArgs s_law_pick) (defBody s_law_pick) (defScope s_law_pick) .none kV4 dc4 pm4 an4 cd4 ct4), sl4⟩) (c4 : PySem.W.codeIn K cd4 "_law_pick" = true) (k4 : PySem.W.keepIn K (.ref f4) = true)
    (a5 : PySem.W.nsIn K mainGlobals "_law_pairs" = some (some (.ref f5)))
    (l5 : K.lookup f5 = some ⟨oc5, od5, .func (PySem.W.fnOf "_law_pairs" "_law_pairs" (defArgs s_law_pairs) (defBody s_law_pairs) (defScope s_law_pairs) .none kV5 dc5 pm5 an5 cd5 ct5), sl5⟩) (c5 : PySem.W.codeIn K cd5 "_law_pairs" = true) (k5 : PySem.W.keepIn K (.ref f5) = true)
    (a6 : PySem.W.nsIn K mainGlobals "_law_closed" = some (some (.ref f6)))
    (l6 : K.lookup f6 = some ⟨oc6, od6, .func (PySem.W.fnOf "_law_closed" "_law_closed" (defArgs s_law_closed) (defBody s_law_closed) (defScope s_law_closed) .none kV6 dc6 pm6 an6 cd6 ct6), sl6⟩) (c6 : PySem.W.codeIn K cd6 "_law_closed" = true) (k6 : PySem.W.keepIn K (.ref f6) = true)
    (a7 : PySem.W.nsIn K mainGlobals "_law_orders" = some (some (.ref f7)))
    (l7 : K.lookup f7 = some ⟨oc7, od7, .func (PySem.W.fnOf "_law_orders" "_law_orders" (defArgs s_lawO) (defBody s_lawO) (defScope s_lawO) .none kV7 dc7 pm7 an7 cd7 ct7), sl7⟩) (c7 : PySem.W.codeIn K cd7 "_law_orders" = true) (k7 : PySem.W.keepIn K (.ref f7) = true)
    (a8 : PySem.W.nsIn K mainGlobals "_law_free" = some (some (.ref f8)))
    (l8 : K.lookup f8 = some ⟨oc8, od8, .func (PySem.W.fnOf "_law_free" "_law_free" (defArgs s_free) (defBody s_free) (defScope s_free) .none kV8 dc8 pm8 an8 cd8 ct8), sl8⟩) (c8 : PySem.W.codeIn K cd8 "_law_free" = true) (k8 : PySem.W.keepIn K (.ref f8) = true)
    (a9 : PySem.W.nsIn K mainGlobals "_law_low" = some (some (.ref f9)))
    (l9 : K.lookup f9 = some ⟨oc9, od9, .func (PySem.W.fnOf "_law_low" "_law_low" (defArgs s_low) (defBody s_low) (defScope s_low) .none kV9 dc9 pm9 an9 cd9 ct9), sl9⟩) (c9 : PySem.W.codeIn K cd9 "_law_low" = true) (k9 : PySem.W.keepIn K (.ref f9) = true)
    (a10 : PySem.W.nsIn K mainGlobals "_law_plus" = some (some (.ref f10)))
    (l10 : K.lookup f10 = some ⟨oc10, od10, .func (PySem.W.fnOf "_law_plus" "_law_plus" (defArgs s_plus) (defBody s_plus) (defScope s_plus) .none kV10 dc10 pm10 an10 cd10 ct10), sl10⟩) (c10 : PySem.W.codeIn K cd10 "_law_plus" = true) (k10 : PySem.W.keepIn K (.ref f10) = true)
    (a11 : PySem.W.nsIn K mainGlobals "_law_times" = some (some (.ref f11)))
    (l11 : K.lookup f11 = some ⟨oc11, od11, .func (PySem.W.fnOf "_law_times" "_law_times" (defArgs s_times) (defBody s_times) (defScope s_times) .none kV11 dc11 pm11 an11 cd11 ct11), sl11⟩) (c11 : PySem.W.codeIn K cd11 "_law_times" = true) (k11 : PySem.W.keepIn K (.ref f11) = true)
    (a12 : PySem.W.nsIn K mainGlobals "_law_sums" = some (some (.ref f12)))
    (l12 : K.lookup f12 = some ⟨oc12, od12, .func (PySem.W.fnOf "_law_sums" "_law_sums" (defArgs s_sums) (defBody s_sums) (defScope s_sums) .none kV12 dc12 pm12 an12 cd12 ct12), sl12⟩) (c12 : PySem.W.codeIn K cd12 "_law_sums" = true) (k12 : PySem.W.keepIn K (.ref f12) = true)
    (a13 : PySem.W.nsIn K mainGlobals "turned" = some (some (.ref f13)))
    (l13 : K.lookup f13 = some ⟨oc13, od13, .func (PySem.W.fnOf "turned" "turned" (defArgs s_turned) (defBody s_turned) (defScope s_turned) .none kV13 dc13 pm13 an13 cd13 ct13), sl13⟩) (c13 : PySem.W.codeIn K cd13 "turned" = true) (k13 : PySem.W.keepIn K (.ref f13) = true)
    (a14 : PySem.W.nsIn K mainGlobals "place_share" = some (some (.ref f14)))
    (l14 : K.lookup f14 = some ⟨oc14, od14, .func (PySem.W.fnOf "place_share" "place_share" (defArgs s_place) (defBody s_place) (defScope s_place) .none kV14 dc14 pm14 an14 cd14 ct14), sl14⟩) (c14 : PySem.W.codeIn K cd14 "place_share" = true) (k14 : PySem.W.keepIn K (.ref f14) = true)
    (a15 : PySem.W.nsIn K mainGlobals "mean_place" = some (some (.ref f15)))
    (l15 : K.lookup f15 = some ⟨oc15, od15, .func (PySem.W.fnOf "mean_place" "mean_place" (defArgs s_mean) (defBody s_mean) (defScope s_mean) .none kV15 dc15 pm15 an15 cd15 ct15), sl15⟩) (c15 : PySem.W.codeIn K cd15 "mean_place" = true) (k15 : PySem.W.keepIn K (.ref f15) = true)
    (a16 : PySem.W.nsIn K mainGlobals "_orders_by_place" = some (some (.ref f16)))
    (l16 : K.lookup f16 = some ⟨oc16, od16, .func (PySem.W.fnOf "_orders_by_place" "_orders_by_place" (defArgs s_byPlace) (defBody s_byPlace) (defScope s_byPlace) .none kV16 dc16 pm16 an16 cd16 ct16), sl16⟩) (c16 : PySem.W.codeIn K cd16 "_orders_by_place" = true) (k16 : PySem.W.keepIn K (.ref f16) = true)
    (a17 : PySem.W.nsIn K mainGlobals "_arrivals" = some (some (.ref f17)))
    (l17 : K.lookup f17 = some ⟨oc17, od17, .func (PySem.W.fnOf "_arrivals" "_arrivals" (defArgs s_arr) (defBody s_arr) (defScope s_arr) .none kV17 dc17 pm17 an17 cd17 ct17), sl17⟩) (c17 : PySem.W.codeIn K cd17 "_arrivals" = true) (k17 : PySem.W.keepIn K (.ref f17) = true)
    (a18 : PySem.W.nsIn K mainGlobals "fraction" = some (some (.ref f18)))
    (l18 : K.lookup f18 = some ⟨oc18, od18, .func (PySem.W.fnOf "fraction" "fraction" (defArgs s_frac) (defBody s_frac) (defScope s_frac) .none kV18 dc18 pm18 an18 cd18 ct18), sl18⟩) (c18 : PySem.W.codeIn K cd18 "fraction" = true) (k18 : PySem.W.keepIn K (.ref f18) = true)
    (a19 : PySem.W.nsIn K mainGlobals "rests" = some (some (.ref f19)))
    (l19 : K.lookup f19 = some ⟨oc19, od19, .func (PySem.W.fnOf "rests" "rests" (defArgs s_rests) (defBody s_rests) (defScope s_rests) .none kV19 dc19 pm19 an19 cd19 ct19), sl19⟩) (c19 : PySem.W.codeIn K cd19 "rests" = true) (k19 : PySem.W.keepIn K (.ref f19) = true)
    (a20 : PySem.W.nsIn K mainGlobals "nexts_of" = some (some (.ref f20)))
    (l20 : K.lookup f20 = some ⟨oc20, od20, .func (PySem.W.fnOf "nexts_of" "nexts_of" (defArgs s_nexts) (defBody s_nexts) (defScope s_nexts) .none kV20 dc20 pm20 an20 cd20 ct20), sl20⟩) (c20 : PySem.W.codeIn K cd20 "nexts_of" = true) (k20 : PySem.W.keepIn K (.ref f20) = true)
    (a21 : PySem.W.nsIn K mainGlobals "ways_on" = some (some (.ref f21)))
    (l21 : K.lookup f21 = some ⟨oc21, od21, .func (PySem.W.fnOf "ways_on" "ways_on" (defArgs s_wayson) (defBody s_wayson) (defScope s_wayson) .none kV21 dc21 pm21 an21 cd21 ct21), sl21⟩) (c21 : PySem.W.codeIn K cd21 "ways_on" = true) (k21 : PySem.W.keepIn K (.ref f21) = true)
    (a22 : PySem.W.nsIn K mainGlobals "ahead_bits" = some (some (.ref f22)))
    (l22 : K.lookup f22 = some ⟨oc22, od22, .func (PySem.W.fnOf "ahead_bits" "ahead_bits" (defArgs s_aheadB) (defBody s_aheadB) (defScope s_aheadB) .none kV22 dc22 pm22 an22 cd22 ct22), sl22⟩) (c22 : PySem.W.codeIn K cd22 "ahead_bits" = true) (k22 : PySem.W.keepIn K (.ref f22) = true)
    (a23 : PySem.W.nsIn K mainGlobals "comers" = some (some (.ref f23)))
    (l23 : K.lookup f23 = some ⟨oc23, od23, .func (PySem.W.fnOf "comers" "comers" (defArgs s_comers) (defBody s_comers) (defScope s_comers) .none kV23 dc23 pm23 an23 cd23 ct23), sl23⟩) (c23 : PySem.W.codeIn K cd23 "comers" = true) (k23 : PySem.W.keepIn K (.ref f23) = true)
    (a24 : PySem.W.nsIn K mainGlobals "_web_of_pairs" = some (some (.ref f24)))
    (l24 : K.lookup f24 = some ⟨oc24, od24, .func (PySem.W.fnOf "_web_of_pairs" "_web_of_pairs" (defArgs s_wop) (defBody s_wop) (defScope s_wop) .none kV24 dc24 pm24 an24 cd24 ct24), sl24⟩) (c24 : PySem.W.codeIn K cd24 "_web_of_pairs" = true) (k24 : PySem.W.keepIn K (.ref f24) = true)
    (a25 : PySem.W.nsIn K mainGlobals "is_integer" = some (some (.ref f25)))
    (l25 : K.lookup f25 = some ⟨oc25, od25, .func (PySem.W.fnOf "is_integer" "is_integer" (defArgs s_isInt) (defBody s_isInt) (defScope s_isInt) .none kV25 dc25 pm25 an25 cd25 ct25), sl25⟩) (c25 : PySem.W.codeIn K cd25 "is_integer" = true) (k25 : PySem.W.keepIn K (.ref f25) = true)
    (a26 : PySem.W.nsIn K mainGlobals "is_name" = some (some (.ref f26)))
    (l26 : K.lookup f26 = some ⟨oc26, od26, .func (PySem.W.fnOf "is_name" "is_name" (defArgs s_isName) (defBody s_isName) (defScope s_isName) .none kV26 dc26 pm26 an26 cd26 ct26), sl26⟩) (c26 : PySem.W.codeIn K cd26 "is_name" = true) (k26 : PySem.W.keepIn K (.ref f26) = true)
    (a27 : PySem.W.nsIn K mainGlobals "is_ascending" = some (some (.ref f27)))
    (l27 : K.lookup f27 = some ⟨oc27, od27, .func (PySem.W.fnOf "is_ascending" "is_ascending" (defArgs s_isAsc) (defBody s_isAsc) (defScope s_isAsc) .none kV27 dc27 pm27 an27 cd27 ct27), sl27⟩) (c27 : PySem.W.codeIn K cd27 "is_ascending" = true) (k27 : PySem.W.keepIn K (.ref f27) = true)
    (a28 : PySem.W.nsIn K mainGlobals "_is_before" = some (some (.ref f28)))
    (l28 : K.lookup f28 = some ⟨oc28, od28, .func (PySem.W.fnOf "_is_before" "_is_before" (defArgs s_isBef) (defBody s_isBef) (defScope s_isBef) .none kV28 dc28 pm28 an28 cd28 ct28), sl28⟩) (c28 : PySem.W.codeIn K cd28 "_is_before" = true) (k28 : PySem.W.keepIn K (.ref f28) = true)
    (a29 : PySem.W.nsIn K mainGlobals "_are_befores" = some (some (.ref f29)))
    (l29 : K.lookup f29 = some ⟨oc29, od29, .func (PySem.W.fnOf "_are_befores" "_are_befores" (defArgs s_areBef) (defBody s_areBef) (defScope s_areBef) .none kV29 dc29 pm29 an29 cd29 ct29), sl29⟩) (c29 : PySem.W.codeIn K cd29 "_are_befores" = true) (k29 : PySem.W.keepIn K (.ref f29) = true)
    (a30 : PySem.W.nsIn K mainGlobals "_with_following" = some (some (.ref f30)))
    (l30 : K.lookup f30 = some ⟨oc30, od30, .func (PySem.W.fnOf "_with_following" "_with_following" (defArgs s_follow) (defBody s_follow) (defScope s_follow) .none kV30 dc30 pm30 an30 cd30 ct30), sl30⟩) (c30 : PySem.W.codeIn K cd30 "_with_following" = true) (k30 : PySem.W.keepIn K (.ref f30) = true)
    (a31 : PySem.W.nsIn K mainGlobals "befores_by" = some (some (.ref f31)))
    (l31 : K.lookup f31 = some ⟨oc31, od31, .func (PySem.W.fnOf "befores_by" "befores_by" (defArgs s_bby) (defBody s_bby) (defScope s_bby) .none kV31 dc31 pm31 an31 cd31 ct31), sl31⟩) (c31 : PySem.W.codeIn K cd31 "befores_by" = true) (k31 : PySem.W.keepIn K (.ref f31) = true)
    (a32 : PySem.W.nsIn K mainGlobals "lot_of" = some (some (.ref f32)))
    (l32 : K.lookup f32 = some ⟨oc32, od32, .func (PySem.W.fnOf "lot_of" "lot_of" (defArgs s_lotOf) (defBody s_lotOf) (defScope s_lotOf) .none kV32 dc32 pm32 an32 cd32 ct32), sl32⟩) (c32 : PySem.W.codeIn K cd32 "lot_of" = true) (k32 : PySem.W.keepIn K (.ref f32) = true)
    (a33 : PySem.W.nsIn K mainGlobals "closed_bits" = some (some (.ref f33)))
    (l33 : K.lookup f33 = some ⟨oc33, od33, .func (PySem.W.fnOf "closed_bits" "closed_bits" (defArgs s_closedB) (defBody s_closedB) (defScope s_closedB) .none kV33 dc33 pm33 an33 cd33 ct33), sl33⟩) (c33 : PySem.W.codeIn K cd33 "closed_bits" = true) (k33 : PySem.W.keepIn K (.ref f33) = true)
    (a34 : PySem.W.nsIn K mainGlobals "is_closed" = some (some (.ref f34)))
    (l34 : K.lookup f34 = some ⟨oc34, od34, .func (PySem.W.fnOf "is_closed" "is_closed" (defArgs s_isClosed) (defBody s_isClosed) (defScope s_isClosed) .none kV34 dc34 pm34 an34 cd34 ct34), sl34⟩) (c34 : PySem.W.codeIn K cd34 "is_closed" = true) (k34 : PySem.W.keepIn K (.ref f34) = true)
    (z_int : PySem.W.nsIn K mainGlobals "int" = some none)
    (z_bool : PySem.W.nsIn K mainGlobals "bool" = some none)
    (z_len : PySem.W.nsIn K mainGlobals "len" = some none)
    (z_range : PySem.W.nsIn K mainGlobals "range" = some none)
    (z_sorted : PySem.W.nsIn K mainGlobals "sorted" = some none)
    (z_set : PySem.W.nsIn K mainGlobals "set" = some none)
    (z_tuple : PySem.W.nsIn K mainGlobals "tuple" = some none)
    (z_list : PySem.W.nsIn K mainGlobals "list" = some none)
    (z_isinstance : PySem.W.nsIn K mainGlobals "isinstance" = some none)
    (z_all : PySem.W.nsIn K mainGlobals "all" = some none)
    (z_any : PySem.W.nsIn K mainGlobals "any" = some none)
    (z_dict : PySem.W.nsIn K mainGlobals "dict" = some none)
    (z_sum : PySem.W.nsIn K mainGlobals "sum" = some none)
    (z_enumerate : PySem.W.nsIn K mainGlobals "enumerate" = some none)
    (z_min : PySem.W.nsIn K mainGlobals "min" = some none)
    (z_max : PySem.W.nsIn K mainGlobals "max" = some none)
    (z_zip : PySem.W.nsIn K mainGlobals "zip" = some none)
    (z_reversed : PySem.W.nsIn K mainGlobals "reversed" = some none)
    (z_repr : PySem.W.nsIn K mainGlobals "repr" = some none)
    (z_str : PySem.W.nsIn K mainGlobals "str" = some none)
    (g_NoName : PySem.W.nsIn K mainGlobals "NoName" = some (some (.ref CN)))
    (xe_NoName : PySem.W.excIn K CN [.type "ValueError", .type "Exception", .type "BaseException", .type "object"] "ValueError.__new__" = true)
    (ke_NoName : PySem.W.keepIn K (.ref CN) = true)
    (be_NoName : PySem.W.subIn K (.ref CN) (.type "BaseException") = some true)
    (te_NoName : PySem.W.typeIn K (.ref CN) = some (.type "type"))
    (ie_NoName : PySem.W.isClsIn K CN = true)
    (ga_NoName : PySem.W.findIn K (.ref CN) "__getattribute__" = some (some (.builtin "BaseException.__getattribute__")))
    (gg_NoName : PySem.W.findIn K (.ref CN) "__getattr__" = some none)
    (fc_NoName : PySem.W.findIn K (.ref CN) "__class__" = some (some (.builtin "object.__class__")))
    (mo_NoName : PySem.W.mroIn K CN (.type "object") = some true)
    (g_NoPlace : PySem.W.nsIn K mainGlobals "NoPlace" = some (some (.ref CP)))
    (xe_NoPlace : PySem.W.excIn K CP [.type "ValueError", .type "Exception", .type "BaseException", .type "object"] "ValueError.__new__" = true)
    (ke_NoPlace : PySem.W.keepIn K (.ref CP) = true)
    (be_NoPlace : PySem.W.subIn K (.ref CP) (.type "BaseException") = some true)
    (te_NoPlace : PySem.W.typeIn K (.ref CP) = some (.type "type"))
    (ie_NoPlace : PySem.W.isClsIn K CP = true)
    (ga_NoPlace : PySem.W.findIn K (.ref CP) "__getattribute__" = some (some (.builtin "BaseException.__getattribute__")))
    (gg_NoPlace : PySem.W.findIn K (.ref CP) "__getattr__" = some none)
    (fc_NoPlace : PySem.W.findIn K (.ref CP) "__class__" = some (some (.builtin "object.__class__")))
    (mo_NoPlace : PySem.W.mroIn K CP (.type "object") = some true)
    (aG : PySem.W.nsIn K mainGlobals "gcd" = some (some (.builtin "math.gcd")))
    (aA : PySem.W.nsIn K mainGlobals "abs" = some none) :
    ∃ fd : FuncData, (∀ (s : Shared) (v : Value), BindsTo s fd ⟨[v], []⟩ [("script", v)]) ∧ ∀ base : Heap, K.In base → base.Ns mainGlobals mg → FnOk l.prog w K mg base CX0 9 fa fd ["script"] (sp_law K) := by
  have e := hfa.symm.trans (PySem.W.mg_of X G a0)
  cases e
  have B : Bl mg := ⟨PySem.W.mg_none_of X G z_int, PySem.W.mg_none_of X G z_bool, PySem.W.mg_none_of X G z_len, PySem.W.mg_none_of X G z_range, PySem.W.mg_none_of X G z_sorted, PySem.W.mg_none_of X G z_set, PySem.W.mg_none_of X G z_tuple, PySem.W.mg_none_of X G z_list, PySem.W.mg_none_of X G z_isinstance, PySem.W.mg_none_of X G z_all, PySem.W.mg_none_of X G z_any, PySem.W.mg_none_of X G z_dict, PySem.W.mg_none_of X G z_sum, PySem.W.mg_none_of X G z_enumerate, PySem.W.mg_none_of X G z_min, PySem.W.mg_none_of X G z_max, PySem.W.mg_none_of X G z_zip, PySem.W.mg_none_of X G z_reversed, PySem.W.mg_none_of X G z_repr, PySem.W.mg_none_of X G z_str⟩
  have F0 := fun_mk (st := s_law) l0 c0 k0
  have F1 := fun_mk (st := s_init) l1 c1 k1
  have b1 := F1.binds (ps := ["self", "many", "befores"]) fun _ _ _ _ _ _ us hl => match us, hl with | [_, _, _], _ => rfl
  have F2 := fun_mk (st := s_eq) l2 c2 k2
  have b2 := F2.binds (ps := ["self", "other"]) fun _ _ _ _ _ _ us hl => match us, hl with | [_, _], _ => rfl
  have F3 := fun_mk (st := s_law_tape) l3 c3 k3
  have b3 := F3.binds (ps := ["script"]) fun _ _ _ _ _ _ us hl => match us, hl with | [_], _ => rfl
  have D3 : Df K mg "_law_tape" s_law_tape ["script"] f3 _ := ⟨F3, b3, PySem.W.mg_of X G a3⟩
  have F4 := fun_mk (st := s_law_pick) l4 c4 k4
  have b4 := F4.binds (ps := ["tape", "many"]) fun _ _ _ _ _ _ us hl => match us, hl with | [_, _], _ => rfl
  have D4 : Df K mg "_law_pick" s_law_pick ["tape", "many"] f4 _ := ⟨F4, b4, PySem.W.mg_of X G a4⟩
  have F5 := fun_mk (st := s_law_pairs) l5 c5 k5
  have b5 := F5.binds (ps := ["tape", "many"]) fun _ _ _ _ _ _ us hl => match us, hl with | [_, _], _ => rfl
  have D5 : Df K mg "_law_pairs" s_law_pairs ["tape", "many"] f5 _ := ⟨F5, b5, PySem.W.mg_of X G a5⟩
  have F6 := fun_mk (st := s_law_closed) l6 c6 k6
  have b6 := F6.binds (ps := ["pairs"]) fun _ _ _ _ _ _ us hl => match us, hl with | [_], _ => rfl
  have D6 : Df K mg "_law_closed" s_law_closed ["pairs"] f6 _ := ⟨F6, b6, PySem.W.mg_of X G a6⟩
  have F7 := fun_mk (st := s_lawO) l7 c7 k7
  have b7 := F7.binds (ps := ["befores", "many"]) fun _ _ _ _ _ _ us hl => match us, hl with | [_, _], _ => rfl
  have D7 : Df K mg "_law_orders" s_lawO ["befores", "many"] f7 _ := ⟨F7, b7, PySem.W.mg_of X G a7⟩
  have F8 := fun_mk (st := s_free) l8 c8 k8
  have b8 := F8.binds (ps := ["befores", "many", "row"]) fun _ _ _ _ _ _ us hl => match us, hl with | [_, _, _], _ => rfl
  have D8 : Df K mg "_law_free" s_free ["befores", "many", "row"] f8 _ := ⟨F8, b8, PySem.W.mg_of X G a8⟩
  have F9 := fun_mk (st := s_low) l9 c9 k9
  have b9 := F9.binds (ps := ["top", "bottom"]) fun _ _ _ _ _ _ us hl => match us, hl with | [_, _], _ => rfl
  have D9 : Df K mg "_law_low" s_low ["top", "bottom"] f9 _ := ⟨F9, b9, PySem.W.mg_of X G a9⟩
  have F10 := fun_mk (st := s_plus) l10 c10 k10
  have b10 := F10.binds (ps := ["one", "other"]) fun _ _ _ _ _ _ us hl => match us, hl with | [_, _], _ => rfl
  have D10 : Df K mg "_law_plus" s_plus ["one", "other"] f10 _ := ⟨F10, b10, PySem.W.mg_of X G a10⟩
  have F11 := fun_mk (st := s_times) l11 c11 k11
  have b11 := F11.binds (ps := ["one", "other"]) fun _ _ _ _ _ _ us hl => match us, hl with | [_, _], _ => rfl
  have D11 : Df K mg "_law_times" s_times ["one", "other"] f11 _ := ⟨F11, b11, PySem.W.mg_of X G a11⟩
  have F12 := fun_mk (st := s_sums) l12 c12 k12
  have b12 := F12.binds (ps := ["web", "many"]) fun _ _ _ _ _ _ us hl => match us, hl with | [_, _], _ => rfl
  have D12 : Df K mg "_law_sums" s_sums ["web", "many"] f12 _ := ⟨F12, b12, PySem.W.mg_of X G a12⟩
  have F13 := fun_mk (st := s_turned) l13 c13 k13
  have b13 := F13.binds (ps := ["web"]) fun _ _ _ _ _ _ us hl => match us, hl with | [_], _ => rfl
  have D13 : Df K mg "turned" s_turned ["web"] f13 _ := ⟨F13, b13, PySem.W.mg_of X G a13⟩
  have F14 := fun_mk (st := s_place) l14 c14 k14
  have b14 := F14.binds (ps := ["web", "name", "place"]) fun _ _ _ _ _ _ us hl => match us, hl with | [_, _, _], _ => rfl
  have D14 : Df K mg "place_share" s_place ["web", "name", "place"] f14 _ := ⟨F14, b14, PySem.W.mg_of X G a14⟩
  have F15 := fun_mk (st := s_mean) l15 c15 k15
  have b15 := F15.binds (ps := ["web", "name"]) fun _ _ _ _ _ _ us hl => match us, hl with | [_, _], _ => rfl
  have D15 : Df K mg "mean_place" s_mean ["web", "name"] f15 _ := ⟨F15, b15, PySem.W.mg_of X G a15⟩
  have F16 := fun_mk (st := s_byPlace) l16 c16 k16
  have b16 := F16.binds (ps := ["web", "name"]) fun _ _ _ _ _ _ us hl => match us, hl with | [_, _], _ => rfl
  have D16 : Df K mg "_orders_by_place" s_byPlace ["web", "name"] f16 _ := ⟨F16, b16, PySem.W.mg_of X G a16⟩
  have F17 := fun_mk (st := s_arr) l17 c17 k17
  have b17 := F17.binds (ps := ["needs"]) fun _ _ _ _ _ _ us hl => match us, hl with | [_], _ => rfl
  have D17 : Df K mg "_arrivals" s_arr ["needs"] f17 _ := ⟨F17, b17, PySem.W.mg_of X G a17⟩
  have F18 := fun_mk (st := s_frac) l18 c18 k18
  have b18 := F18.binds (ps := ["top", "bottom"]) fun _ _ _ _ _ _ us hl => match us, hl with | [_, _], _ => rfl
  have D18 : Df K mg "fraction" s_frac ["top", "bottom"] f18 _ := ⟨F18, b18, PySem.W.mg_of X G a18⟩
  have F19 := fun_mk (st := s_rests) l19 c19 k19
  have b19 := F19.binds (ps := ["needs"]) fun _ _ _ _ _ _ us hl => match us, hl with | [_], _ => rfl
  have D19 : Df K mg "rests" s_rests ["needs"] f19 _ := ⟨F19, b19, PySem.W.mg_of X G a19⟩
  have F20 := fun_mk (st := s_nexts) l20 c20 k20
  have b20 := F20.binds (ps := ["needs"]) fun _ _ _ _ _ _ us hl => match us, hl with | [_], _ => rfl
  have D20 : Df K mg "nexts_of" s_nexts ["needs"] f20 _ := ⟨F20, b20, PySem.W.mg_of X G a20⟩
  have F21 := fun_mk (st := s_wayson) l21 c21 k21
  have b21 := F21.binds (ps := ["nexts"]) fun _ _ _ _ _ _ us hl => match us, hl with | [_], _ => rfl
  have D21 : Df K mg "ways_on" s_wayson ["nexts"] f21 _ := ⟨F21, b21, PySem.W.mg_of X G a21⟩
  have F22 := fun_mk (st := s_aheadB) l22 c22 k22
  have b22 := F22.binds (ps := ["web"]) fun _ _ _ _ _ _ us hl => match us, hl with | [_], _ => rfl
  have D22 : Df K mg "ahead_bits" s_aheadB ["web"] f22 _ := ⟨F22, b22, PySem.W.mg_of X G a22⟩
  have F23 := fun_mk (st := s_comers) l23 c23 k23
  have b23 := F23.binds (ps := ["needs", "gone"]) fun _ _ _ _ _ _ us hl => match us, hl with | [_, _], _ => rfl
  have D23 : Df K mg "comers" s_comers ["needs", "gone"] f23 _ := ⟨F23, b23, PySem.W.mg_of X G a23⟩
  have F24 := fun_mk (st := s_wop) l24 c24 k24
  have b24 := F24.binds (ps := ["many", "pairs"]) fun _ _ _ _ _ _ us hl => match us, hl with | [_, _], _ => rfl
  have D24 : Df K mg "_web_of_pairs" s_wop ["many", "pairs"] f24 _ := ⟨F24, b24, PySem.W.mg_of X G a24⟩
  have F25 := fun_mk (st := s_isInt) l25 c25 k25
  have b25 := F25.binds (ps := ["thing"]) fun _ _ _ _ _ _ us hl => match us, hl with | [_], _ => rfl
  have D25 : Df K mg "is_integer" s_isInt ["thing"] f25 _ := ⟨F25, b25, PySem.W.mg_of X G a25⟩
  have F26 := fun_mk (st := s_isName) l26 c26 k26
  have b26 := F26.binds (ps := ["many", "thing"]) fun _ _ _ _ _ _ us hl => match us, hl with | [_, _], _ => rfl
  have D26 : Df K mg "is_name" s_isName ["many", "thing"] f26 _ := ⟨F26, b26, PySem.W.mg_of X G a26⟩
  have F27 := fun_mk (st := s_isAsc) l27 c27 k27
  have b27 := F27.binds (ps := ["items"]) fun _ _ _ _ _ _ us hl => match us, hl with | [_], _ => rfl
  have D27 : Df K mg "is_ascending" s_isAsc ["items"] f27 _ := ⟨F27, b27, PySem.W.mg_of X G a27⟩
  have F28 := fun_mk (st := s_isBef) l28 c28 k28
  have b28 := F28.binds (ps := ["many", "thing"]) fun _ _ _ _ _ _ us hl => match us, hl with | [_, _], _ => rfl
  have D28 : Df K mg "_is_before" s_isBef ["many", "thing"] f28 _ := ⟨F28, b28, PySem.W.mg_of X G a28⟩
  have F29 := fun_mk (st := s_areBef) l29 c29 k29
  have b29 := F29.binds (ps := ["many", "thing"]) fun _ _ _ _ _ _ us hl => match us, hl with | [_, _], _ => rfl
  have D29 : Df K mg "_are_befores" s_areBef ["many", "thing"] f29 _ := ⟨F29, b29, PySem.W.mg_of X G a29⟩
  have F30 := fun_mk (st := s_follow) l30 c30 k30
  have b30 := F30.binds (ps := ["many", "befores"]) fun _ _ _ _ _ _ us hl => match us, hl with | [_, _], _ => rfl
  have D30 : Df K mg "_with_following" s_follow ["many", "befores"] f30 _ := ⟨F30, b30, PySem.W.mg_of X G a30⟩
  have F31 := fun_mk (st := s_bby) l31 c31 k31
  have b31 := F31.binds (ps := ["behind"]) fun _ _ _ _ _ _ us hl => match us, hl with | [_], _ => rfl
  have D31 : Df K mg "befores_by" s_bby ["behind"] f31 _ := ⟨F31, b31, PySem.W.mg_of X G a31⟩
  have F32 := fun_mk (st := s_lotOf) l32 c32 k32
  have b32 := F32.binds (ps := ["many", "bits"]) fun _ _ _ _ _ _ us hl => match us, hl with | [_, _], _ => rfl
  have D32 : Df K mg "lot_of" s_lotOf ["many", "bits"] f32 _ := ⟨F32, b32, PySem.W.mg_of X G a32⟩
  have F33 := fun_mk (st := s_closedB) l33 c33 k33
  have b33 := F33.binds (ps := ["needs"]) fun _ _ _ _ _ _ us hl => match us, hl with | [_], _ => rfl
  have D33 : Df K mg "closed_bits" s_closedB ["needs"] f33 _ := ⟨F33, b33, PySem.W.mg_of X G a33⟩
  have F34 := fun_mk (st := s_isClosed) l34 c34 k34
  have b34 := F34.binds (ps := ["needs", "bits"]) fun _ _ _ _ _ _ us hl => match us, hl with | [_, _], _ => rfl
  have D34 : Df K mg "is_closed" s_isClosed ["needs", "bits"] f34 _ := ⟨F34, b34, PySem.W.mg_of X G a34⟩
  have W : WebC K mg C f1 f2 := ⟨⟨⟨pg, hd, po, sa⟩, iha, ihn, iht, ihm, kit_me⟩, nM, nB, ⟨wm, a1, i1, wk⟩, PySem.W.mg_of X G aC, a2, i2, wne, ⟨_, PySem.W.mg_of X G aN⟩, kit_no (l := [.type "NoneType", .type "object"]) iC tC (by decide +kernel) rfl, kit_no (l := [.type "int", .type "object"]) iC tC (by decide +kernel) rfl, kit_no (l := [.type "tuple", .type "object"]) iC tC (by decide +kernel) rfl, kit_no (l := [.type "list", .type "object"]) iC tC (by decide +kernel) rfl, kit_no (l := [.type "str", .type "object"]) iC tC (by decide +kernel) rfl, kit_no (l := [.type "dict", .type "object"]) iC tC (by decide +kernel) rfl⟩
  have EN : ErrC K mg "NoName" CN := ⟨PySem.W.mg_of X G g_NoName, xe_NoName, ke_NoName, be_NoName, te_NoName, ie_NoName, ga_NoName, gg_NoName, fc_NoName, mo_NoName⟩
  have EP : ErrC K mg "NoPlace" CP := ⟨PySem.W.mg_of X G g_NoPlace, xe_NoPlace, ke_NoPlace, be_NoPlace, te_NoPlace, ie_NoPlace, ga_NoPlace, gg_NoPlace, fc_NoPlace, mo_NoPlace⟩
  exact ⟨PySem.W.fnOf "law" "law" (defArgs s_law) (defBody s_law) (defScope s_law) .none kV0 dc0 pm0 an0 cd0 ct0, fun s v => .of_eq rfl, fun base _ _ => ok_law F0 W F1 b1 D3 D4 D5 D6 D7 D8 D9 D10 D11 D12 D13 D14 D15 D16 D17 D18 D19 D20 D21 D22 D23 D24 D25 D26 D27 D28 D29 D30 D31 D32 D33 D34 EN EP (PySem.W.mg_of X G aG) (PySem.W.mg_none_of X G aA) B⟩
theorem walk {l : PySem.W.OpenLaw} {q : Program} {loose : List Str} {XP : (Str → Option Value) → Heap → Prop} {YP : World → Heap → Prop} {d : DefRec} {K : Params → PySem.W.Frag} (hn : l.most = some 63) (hdf : d.params.defaults = [])
    (hY : ∀ (w : World) (h : Heap), YP w h → (K w.params).In h)
    (F : ∀ (w : World) (mg : Str → Option Value) (fa : Addr) (h : Heap), (K w.params).In h → h.Ns mainGlobals mg → mg d.name = some (.ref fa) →
      ∃ fd : FuncData, (∀ (s : Shared) (u : Value), BindsTo s fd ⟨[u], []⟩ [("script", u)]) ∧ ∀ base : Heap, (K w.params).In base → base.Ns mainGlobals mg → FnOk l.prog w (K w.params) mg base CX0 9 fa fd ["script"] (sp_law (K w.params))) :
    PySem.W.WalkO q loose XP YP l.row.toRowW d [] (fun f vs => PySem.call f vs) :=
  L2.walk_of (n := 63) (k := 9) (x := "script") (CX := fun _ => CX0) (sp := fun w => sp_law (K w.params)) hn (by decide) hdf ⟨rfl, by decide, by decide⟩ hY F (fun _ _ a ns hl _ hS => ⟨a, ns, rfl, hS, hl, fun _ => rfl⟩) fun _ _ _ _ _ z => z
end Ev
open PySem PySem.W PyProof.Rows
set_option maxRecDepth 100000 in
set_option maxHeartbeats 0 in
theorem PySem.Challenge.cw_evenorders_k15_whole_shares_of_places_holds : PySem.Challenge.rw_evenorders_k15_whole_shares_of_places.Holds := by
  w_on; o_law; k_head; (case hw => w_witness2)
  k_fill
  refine Ev.walk (l := PySem.Challenge.rw_evenorders_k15_whole_shares_of_places) rfl rfl (fun w h Y => PySem.W.kIn_of Y) ?F
  case F =>
    intro w mg fa h KX G hmg
    refine' Ev.all_mk KX G hmg ?aC ?aN ?pg ?hd ?po ?sa ?wm ?wk ?iha ?ihn ?iht ?ihm ?iC ?tC ?nM ?nB ?wne ?a0 ?l0 ?c0 ?k0 ?a1 ?i1 ?l1 ?c1 ?k1 ?a2 ?i2 ?l2 ?c2 ?k2 ?a3 ?l3 ?c3 ?k3 ?a4 ?l4 ?c4 ?k4 ?a5 ?l5 ?c5 ?k5 ?a6 ?l6 ?c6 ?k6 ?a7 ?l7 ?c7 ?k7 ?a8 ?l8 ?c8 ?k8 ?a9 ?l9 ?c9 ?k9 ?a10 ?l10 ?c10 ?k10 ?a11 ?l11 ?c11 ?k11 ?a12 ?l12 ?c12 ?k12 ?a13 ?l13 ?c13 ?k13 ?a14 ?l14 ?c14 ?k14 ?a15 ?l15 ?c15 ?k15 ?a16 ?l16 ?c16 ?k16 ?a17 ?l17 ?c17 ?k17 ?a18 ?l18 ?c18 ?k18 ?a19 ?l19 ?c19 ?k19 ?a20 ?l20 ?c20 ?k20 ?a21 ?l21 ?c21 ?k21 ?a22 ?l22 ?c22 ?k22 ?a23 ?l23 ?c23 ?k23 ?a24 ?l24 ?c24 ?k24 ?a25 ?l25 ?c25 ?k25 ?a26 ?l26 ?c26 ?k26 ?a27 ?l27 ?c27 ?k27 ?a28 ?l28 ?c28 ?k28 ?a29 ?l29 ?c29 ?k29 ?a30 ?l30 ?c30 ?k30 ?a31 ?l31 ?c31 ?k31 ?a32 ?l32 ?c32 ?k32 ?a33 ?l33 ?c33 ?k33 ?a34 ?l34 ?c34 ?k34 ?z_int ?z_bool ?z_len ?z_range ?z_sorted ?z_set ?z_tuple ?z_list ?z_isinstance ?z_all ?z_any ?z_dict ?z_sum ?z_enumerate ?z_min ?z_max ?z_zip ?z_reversed ?z_repr ?z_str ?g_NoName ?xe_NoName ?ke_NoName ?be_NoName ?te_NoName ?ie_NoName ?ga_NoName ?gg_NoName ?fc_NoName ?mo_NoName ?g_NoPlace ?xe_NoPlace ?ke_NoPlace ?be_NoPlace ?te_NoPlace ?ie_NoPlace ?ga_NoPlace ?gg_NoPlace ?fc_NoPlace ?mo_NoPlace ?aG ?aA
    (case g_NoName => k_is)
    (case g_NoPlace => k_is)
    (case aC => k_is)
    (case aN => k_is)
    (case pg => k_is)
    (case hd => k_is)
    (case po => k_is)
    (case sa => k_is)
    (case wm => k_is)
    (case wk => k_is)
    (case iha => k_is)
    (case ihn => k_is)
    (case iht => k_is)
    (case ihm => k_is)
    (case iC => k_is)
    (case tC => k_is)
    (case nM => k_is)
    (case nB => k_is)
    (case wne => k_is)
    (case a0 => k_is)
    (case l0 => k_is)
    (case c0 => k_is)
    (case k0 => k_is)
    (case a1 => k_is)
    (case i1 => k_is)
    (case l1 => k_is)
    (case c1 => k_is)
    (case k1 => k_is)
    (case a2 => k_is)
    (case i2 => k_is)
    (case l2 => k_is)
    (case c2 => k_is)
    (case k2 => k_is)
    (case a3 => k_is)
    (case l3 => k_is)
    (case c3 => k_is)
    (case k3 => k_is)
    (case a4 => k_is)
    (case l4 => k_is)
    (case c4 => k_is)
    (case k4 => k_is)
    (case a5 => k_is)
    (case l5 => k_is)
    (case c5 => k_is)
    (case k5 => k_is)
    (case a6 => k_is)
    (case l6 => k_is)
    (case c6 => k_is)
    (case k6 => k_is)
    (case a7 => k_is)
    (case l7 => k_is)
    (case c7 => k_is)
    (case k7 => k_is)
    (case a8 => k_is)
    (case l8 => k_is)
    (case c8 => k_is)
    (case k8 => k_is)
    (case a9 => k_is)
    (case l9 => k_is)
    (case c9 => k_is)
    (case k9 => k_is)
    (case a10 => k_is)
    (case l10 => k_is)
    (case c10 => k_is)
    (case k10 => k_is)
    (case a11 => k_is)
    (case l11 => k_is)
    (case c11 => k_is)
    (case k11 => k_is)
    (case a12 => k_is)
    (case l12 => k_is)
    (case c12 => k_is)
    (case k12 => k_is)
    (case a13 => k_is)
    (case l13 => k_is)
    (case c13 => k_is)
    (case k13 => k_is)
    (case a14 => k_is)
    (case l14 => k_is)
    (case c14 => k_is)
    (case k14 => k_is)
    (case a15 => k_is)
    (case l15 => k_is)
    (case c15 => k_is)
    (case k15 => k_is)
    (case a16 => k_is)
    (case l16 => k_is)
    (case c16 => k_is)
    (case k16 => k_is)
    (case a17 => k_is)
    (case l17 => k_is)
    (case c17 => k_is)
    (case k17 => k_is)
    (case a18 => k_is)
    (case l18 => k_is)
    (case c18 => k_is)
    (case k18 => k_is)
    (case a19 => k_is)
    (case l19 => k_is)
    (case c19 => k_is)
    (case k19 => k_is)
    (case a20 => k_is)
    (case l20 => k_is)
    (case c20 => k_is)
    (case k20 => k_is)
    (case a21 => k_is)
    (case l21 => k_is)
    (case c21 => k_is)
    (case k21 => k_is)
    (case a22 => k_is)
    (case l22 => k_is)
    (case c22 => k_is)
    (case k22 => k_is)
    (case a23 => k_is)
    (case l23 => k_is)
    (case c23 => k_is)
    (case k23 => k_is)
    (case a24 => k_is)
    (case l24 => k_is)
    (case c24 => k_is)
    (case k24 => k_is)
    (case a25 => k_is)
    (case l25 => k_is)
    (case c25 => k_is)
    (case k25 => k_is)
    (case a26 => k_is)
    (case l26 => k_is)
    (case c26 => k_is)
    (case k26 => k_is)
    (case a27 => k_is)
    (case l27 => k_is)
    (case c27 => k_is)
    (case k27 => k_is)
    (case a28 => k_is)
    (case l28 => k_is)
    (case c28 => k_is)
    (case k28 => k_is)
    (case a29 => k_is)
    (case l29 => k_is)
    (case c29 => k_is)
    (case k29 => k_is)
    (case a30 => k_is)
    (case l30 => k_is)
    (case c30 => k_is)
    (case k30 => k_is)
    (case a31 => k_is)
    (case l31 => k_is)
    (case c31 => k_is)
    (case k31 => k_is)
    (case a32 => k_is)
    (case l32 => k_is)
    (case c32 => k_is)
    (case k32 => k_is)
    (case a33 => k_is)
    (case l33 => k_is)
    (case c33 => k_is)
    (case k33 => k_is)
    (case a34 => k_is)
    (case l34 => k_is)
    (case c34 => k_is)
    (case k34 => k_is)
    (case z_int => k_is)
    (case z_bool => k_is)
    (case z_len => k_is)
    (case z_range => k_is)
    (case z_sorted => k_is)
    (case z_set => k_is)
    (case z_tuple => k_is)
    (case z_list => k_is)
    (case z_isinstance => k_is)
    (case z_all => k_is)
    (case z_any => k_is)
    (case z_dict => k_is)
    (case z_sum => k_is)
    (case z_enumerate => k_is)
    (case z_min => k_is)
    (case z_max => k_is)
    (case z_zip => k_is)
    (case z_reversed => k_is)
    (case z_repr => k_is)
    (case z_str => k_is)
    (case xe_NoName => k_exc)
    (case ke_NoName => k_is)
    (case be_NoName => k_is)
    (case te_NoName => k_is)
    (case ie_NoName => k_is)
    (case ga_NoName => k_is)
    (case gg_NoName => k_is)
    (case fc_NoName => k_is)
    (case mo_NoName => k_is)
    (case xe_NoPlace => k_exc)
    (case ke_NoPlace => k_is)
    (case be_NoPlace => k_is)
    (case te_NoPlace => k_is)
    (case ie_NoPlace => k_is)
    (case ga_NoPlace => k_is)
    (case gg_NoPlace => k_is)
    (case fc_NoPlace => k_is)
    (case mo_NoPlace => k_is)
    (case aG => k_is)
    (case aA => k_is)
