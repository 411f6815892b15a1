import PyProof.Rows.All
import Wide.All
import OpenK.AllK
import Wide.FinOn
import HandS.ForMost
import HandS.TupSets
import PyProof.WalksMore
import PyProof.TupleIter
import HandS.Codes
import HandS.WideBits
import HandS.IsInst
import HandS.OwnEq
import HandS.TupAny
import PySem.Challenge.RW_evenorders_k03_webs_are_compared
set_option Elab.async false
set_option linter.all false
set_option maxRecDepth 100000
set_option maxHeartbeats 8000000
namespace Ev
abbrev Pr := Int × Int
def code (p : Pr) : Int := p.1 * 64 + p.2
/-- names below n -/
def In (n : Int) (ps : List Pr) : Prop := ∀ p ∈ ps, 0 ≤ p.1 ∧ p.1 < n ∧ 0 ≤ p.2 ∧ p.2 < n
def asc (ps : List Pr) : Prop := ps.Pairwise (fun p q => code p < code q)
theorem In.mono {n m : Int} {ps : List Pr} (h : In n ps) (l : n ≤ m) : In m ps := fun p hp => by
  have := h p hp
  omega
theorem In.sub {n : Int} {ps qs : List Pr} (h : In n ps) (l : ∀ q ∈ qs, q ∈ ps) : In n qs := fun p hp => h p (l p hp)
theorem code_inj {p q : Pr} (h1 : 0 ≤ p.2 ∧ p.2 < 64) (h2 : 0 ≤ q.2 ∧ q.2 < 64) (e : code p = code q) : p = q := by
  obtain ⟨a, b⟩ := p
  obtain ⟨c, d⟩ := q
  simp only [code] at e h1 h2
  have : a = c := by omega
  have : b = d := by omega
  simp [*]
theorem asc_nodup {ps : List Pr} (h : asc ps) : ps.Nodup := h.imp (fun {p q} l e => by subst e; omega)
/-- two ascending rows with the same items are one -/
theorem asc_eq : ∀ {ps qs : List Pr}, asc ps → asc qs → (∀ p, p ∈ ps ↔ p ∈ qs) → ps = qs
  | [], [], _, _, _ => rfl
  | [], q :: qs, _, _, h => absurd ((h q).mpr List.mem_cons_self) (by simp)
  | p :: ps, [], _, _, h => absurd ((h p).mp List.mem_cons_self) (by simp)
  | p :: ps, q :: qs, hp, hq, h => by
    have p1 := List.pairwise_cons.mp hp
    have q1 := List.pairwise_cons.mp hq
    have e : p = q := by
      rcases List.mem_cons.mp ((h p).mp List.mem_cons_self) with e | m
      · exact e
      · rcases List.mem_cons.mp ((h q).mpr List.mem_cons_self) with e | m'
        · exact e.symm
        · have := q1.1 p m
          have := p1.1 q m'
          omega
    subst e
    have t : ps = qs := asc_eq p1.2 q1.2 fun x => by
      have hx := h x
      simp only [List.mem_cons] at hx
      constructor
      · intro m
        rcases hx.mp (.inr m) with e | m'
        · subst e
          have := p1.1 x m
          omega
        · exact m'
      · intro m
        rcases hx.mpr (.inr m) with e | m'
        · subst e
          have := q1.1 x m
          omega
        · exact m'
    rw [t]
/-! ### paths -/
def Pn (ps : List Pr) : Nat → Int → Int → Prop
  | 0, a, b => a = b
  | n + 1, a, b => ∃ m, (a, m) ∈ ps ∧ Pn ps n m b
theorem Pn_add {ps : List Pr} : ∀ {n m : Nat} {a b c : Int}, Pn ps n a b → Pn ps m b c → Pn ps (n + m) a c
  | 0, m, a, b, c, h, k => by
    have e : a = b := h
    subst e
    simpa using k
  | n + 1, m, a, b, c, ⟨x, h, r⟩, k => by
    rw [Nat.add_right_comm]
    exact ⟨x, h, Pn_add r k⟩
theorem Pn_split {ps : List Pr} : ∀ {n m : Nat} {a c : Int}, Pn ps (n + m) a c → ∃ b, Pn ps n a b ∧ Pn ps m b c
  | 0, m, a, c, h => ⟨a, rfl, by simpa using h⟩
  | n + 1, m, a, c, h => by
    rw [Nat.add_right_comm] at h
    obtain ⟨x, h, r⟩ := h
    obtain ⟨b, r1, r2⟩ := Pn_split r
    exact ⟨b, ⟨x, h, r1⟩, r2⟩
/-- b follows a -/
def Tc (ps : List Pr) (a b : Int) : Prop := ∃ n, 1 ≤ n ∧ Pn ps n a b
theorem Tc.one {ps : List Pr} {a b : Int} (h : (a, b) ∈ ps) : Tc ps a b := ⟨1, Nat.le_refl _, b, h, rfl⟩
theorem Tc.trans {ps : List Pr} {a b c : Int} (h : Tc ps a b) (k : Tc ps b c) : Tc ps a c := by
  obtain ⟨n, hn, p⟩ := h
  obtain ⟨m, hm, q⟩ := k
  exact ⟨n + m, by omega, Pn_add p q⟩
/-- what holds of the pairs and goes on holds of all that follow -/
theorem Tc.ind {ps : List Pr} {R : Int → Int → Prop} (h1 : ∀ a b, (a, b) ∈ ps → R a b) (ht : ∀ a b c, R a b → R b c → R a c) : ∀ {a b : Int}, Tc ps a b → R a b := by
  rintro a b ⟨n, hn, p⟩
  induction n generalizing a with
  | zero => omega
  | succ n ih =>
    obtain ⟨x, h, r⟩ := p
    cases n with
    | zero =>
      have e : x = b := r
      subst e
      exact h1 _ _ h
    | succ n => exact ht _ _ _ (h1 _ _ h) (ih (by omega) r)
theorem Tc.mono {ps qs : List Pr} (h : ∀ a b, (a, b) ∈ ps → Tc qs a b) {a b : Int} (k : Tc ps a b) : Tc qs a b := k.ind h fun _ _ _ => Tc.trans
theorem Tc.in {n : Int} {ps : List Pr} (h : In n ps) {a b : Int} (k : Tc ps a b) : 0 ≤ a ∧ a < n ∧ 0 ≤ b ∧ b < n :=
  k.ind (R := fun a b => 0 ≤ a ∧ a < n ∧ 0 ≤ b ∧ b < n) (fun a b m => h (a, b) m) fun a b c x y => ⟨x.1, x.2.1, y.2.2⟩
/-- qs is the row of all that follow -/
structure Cl (ps qs : List Pr) : Prop where
  asc : asc qs
  mem : ∀ a b, (a, b) ∈ qs ↔ Tc ps a b
theorem Cl.uniq {ps qs rs : List Pr} (h : Cl ps qs) (k : Cl ps rs) : qs = rs := asc_eq h.asc k.asc fun ⟨a, b⟩ => (h.mem a b).trans (k.mem a b).symm
theorem Cl.sub {ps qs : List Pr} (h : Cl ps qs) : ∀ p ∈ ps, p ∈ qs := fun ⟨a, b⟩ m => (h.mem a b).mpr (.one m)
theorem Cl.in {n : Int} {ps qs : List Pr} (h : Cl ps qs) (k : In n ps) : In n qs := fun ⟨a, b⟩ m => ((h.mem a b).mp m).in k
theorem Cl.trans {ps qs : List Pr} (h : Cl ps qs) {a b c : Int} (x : (a, b) ∈ qs) (y : (b, c) ∈ qs) : (a, c) ∈ qs := (h.mem _ _).mpr (((h.mem _ _).mp x).trans ((h.mem _ _).mp y))
/-- who lies between is the same: the closure of what lies between the pairs and all that follow -/
theorem Cl.between {ps qs rs : List Pr} (h : Cl ps qs) (h1 : ∀ p ∈ ps, p ∈ rs) (h2 : ∀ p ∈ rs, p ∈ qs) : Cl rs qs :=
  ⟨h.asc, fun a b => ⟨fun m => ((h.mem a b).mp m).mono fun x y k => .one (h1 _ k), fun t => (h.mem a b).mpr (t.mono fun x y k => (h.mem x y).mp (h2 _ k))⟩⟩
theorem Cl.idem {ps qs : List Pr} (h : Cl ps qs) : Cl qs qs := h.between h.sub fun _ m => m
theorem Cl.congr {ps ps' qs : List Pr} (h : Cl ps qs) (e : ∀ p, p ∈ ps ↔ p ∈ ps') : Cl ps' qs :=
  ⟨h.asc, fun a b => ⟨fun m => ((h.mem a b).mp m).mono fun x y k => .one ((e _).mp k), fun t => (h.mem a b).mpr (t.mono fun x y k => .one ((e _).mpr k))⟩⟩
/-! ### no ring -/
/-- a standing: each pair goes up in it -/
structure Ups (N : Nat) (r : Int → Nat) (ps : List Pr) : Prop where
  up : ∀ a b, (a, b) ∈ ps → r a < r b
  top : ∀ a b, (a, b) ∈ ps → r b < N
theorem Ups.path {N : Nat} {r : Int → Nat} {ps : List Pr} (h : Ups N r ps) : ∀ {n : Nat} {a b : Int}, Pn ps n a b → r a + n ≤ r b ∧ (1 ≤ n → r b < N)
  | 0, a, b, e => by
    have e : a = b := e
    subst e
    omega
  | n + 1, a, b, ⟨x, m, p⟩ => by
    have h1 := h.up _ _ m
    have h2 := h.top _ _ m
    have h3 := h.path p
    refine ⟨by omega, fun _ => ?_⟩
    cases n with
    | zero =>
      have e : x = b := p
      subst e
      exact h2
    | succ n => exact h3.2 (by omega)
theorem Ups.tc {N : Nat} {r : Int → Nat} {ps : List Pr} (h : Ups N r ps) {a b : Int} (k : Tc ps a b) : r a < r b ∧ r b < N := by
  obtain ⟨n, hn, p⟩ := k
  have := h.path p
  exact ⟨by omega, this.2 hn⟩
theorem Ups.cl {N : Nat} {r : Int → Nat} {ps qs : List Pr} (h : Ups N r ps) (k : Cl ps qs) : Ups N r qs := ⟨fun a b m => (h.tc ((k.mem a b).mp m)).1, fun a b m => (h.tc ((k.mem a b).mp m)).2⟩
theorem Ups.sub {N : Nat} {r : Int → Nat} {ps qs : List Pr} (h : Ups N r ps) (k : ∀ q ∈ qs, q ∈ ps) : Ups N r qs := ⟨fun a b m => h.up a b (k _ m), fun a b m => h.top a b (k _ m)⟩
/-! ### the law's rounds -/
/-- after k rounds: the paths of at most 2 ^ k steps -/
def Rnd (ps : List Pr) (k : Nat) (F : List Pr) : Prop := ∀ a b, (a, b) ∈ F ↔ ∃ n, 1 ≤ n ∧ n ≤ 2 ^ k ∧ Pn ps n a b
theorem Rnd.zero {ps F : List Pr} (h : ∀ p, p ∈ F ↔ p ∈ ps) : Rnd ps 0 F := fun a b => by
  rw [h]
  constructor
  · exact fun m => ⟨1, Nat.le_refl _, Nat.le_refl _, b, m, rfl⟩
  · rintro ⟨n, h1, h2, p⟩
    have e : n = 1 := by
      have : (2 : Nat) ^ 0 = 1 := rfl
      omega
    subst e
    obtain ⟨x, m, e⟩ := p
    have e : x = b := e
    subst e
    exact m
theorem Rnd.succ {ps F G : List Pr} {k : Nat} (h : Rnd ps k F) (hG : ∀ a c, (a, c) ∈ G ↔ (a, c) ∈ F ∨ ∃ b, (a, b) ∈ F ∧ (b, c) ∈ F) : Rnd ps (k + 1) G := fun a c => by
  rw [hG]
  have e2 : 2 ^ (k + 1) = 2 ^ k + 2 ^ k := by rw [Nat.pow_succ]; omega
  constructor
  · rintro (m | ⟨b, m1, m2⟩)
    · obtain ⟨n, h1, h2, p⟩ := (h a c).mp m
      exact ⟨n, h1, by omega, p⟩
    · obtain ⟨n, h1, h2, p⟩ := (h a b).mp m1
      obtain ⟨n', h1', h2', p'⟩ := (h b c).mp m2
      exact ⟨n + n', by omega, by omega, Pn_add p p'⟩
  · rintro ⟨n, h1, h2, p⟩
    by_cases hn : n ≤ 2 ^ k
    · exact .inl ((h a c).mpr ⟨n, h1, hn, p⟩)
    · obtain ⟨d, rfl⟩ : ∃ d, n = 2 ^ k + d := ⟨n - 2 ^ k, by omega⟩
      obtain ⟨b, p1, p2⟩ := Pn_split p
      have : 1 ≤ 2 ^ k := Nat.one_le_two_pow
      exact .inr ⟨b, (h a b).mpr ⟨2 ^ k, this, Nat.le_refl _, p1⟩, (h b c).mpr ⟨d, by omega, by omega, p2⟩⟩
theorem Rnd.done {ps F : List Pr} {r : Int → Nat} {N : Nat} (h : Rnd ps 4 F) (u : Ups N r ps) (hN : N ≤ 17) : ∀ a b, (a, b) ∈ F ↔ Tc ps a b := fun a b => by
  rw [h]
  constructor
  · rintro ⟨n, h1, _, p⟩
    exact ⟨n, h1, p⟩
  · rintro ⟨n, h1, p⟩
    have := u.path p
    have := this.2 h1
    exact ⟨n, h1, by omega, p⟩
/-! ### rows of names -/
/-- the place of a name in a row -/
def plc (row : List Int) (a : Int) : Nat := row.idxOf a
theorem plc_get {row : List Int} (nd : row.Nodup) {i : Nat} {a : Int} (h : row[i]? = some a) : plc row a = i := by
  obtain ⟨hi, e⟩ := List.getElem?_eq_some_iff.mp h
  rw [← e]
  unfold plc
  exact List.Nodup.idxOf_getElem nd i hi
/-! ### many asc pairs -/
theorem asc_of_perm {ps qs : List Pr} (pm : qs.Perm ps) (nd : ps.Nodup) (hin : In 64 ps) (h : qs.Pairwise (fun p q => code p ≤ code q)) : asc qs := by
  have nq : qs.Nodup := pm.nodup_iff.mpr nd
  have hq : In 64 qs := fun p hp => hin p (pm.mem_iff.mp hp)
  have h3 := h.and nq
  refine List.Pairwise.imp_of_mem (fun {p q} mp mq ⟨l, ne⟩ => ?_) h3
  rcases Int.lt_or_eq_of_le l with lt | e
  · exact lt
  · have x := hq p mp
    have y := hq q mq
    exact absurd (code_inj ⟨x.2.2.1, x.2.2.2⟩ ⟨y.2.2.1, y.2.2.2⟩ e) ne
end Ev

namespace Ev
open PySem PySem.Spec PyProof.Rows L2
section
variable {P : Program} {w : World} {A : Around} {E : Value → Shared → Prop} {s : Shared}
abbrev Ks := List (Addr × List Int)
/-- few unlike ones among them -/
def Few (ks : Ks) : Prop := ∀ L : Ks, (∀ p ∈ L, p ∈ ks) → (L.map (·.2)).Nodup → L.length < 63
/-- the update's loop, over any walk, the unlike ones being few -/
theorem grow_loop {I : Addr} {fp wr : List Addr} {G : Array GenState → Array GenState → Prop} {n : Nat} {Pv : Nat → Value → Prop} {St : Nat → Shared → Prop} {R : Result → Shared → Prop}
    (W : WalksS P w A.in1 I fp wr G n Pv St) (S : Addr) (hSf : S ∉ fp) (ks : Ks) (hn : n = ks.length) (few : Few ks) (val : ∀ i v, Pv i v → ∃ p, ks[i]? = some p ∧ v = .ref p.1)
    (g0 : Heap) (hk : ∀ p ∈ ks, IsT P w g0 p.2 p.1) (gS : g0.get? S = none) (gw : ∀ b ∈ wr, g0.get? b = none) (hu : A.in1.units < cLine) (left : Nat) :
    ∀ (i : Nat) (z : Shared), n - i = left → i ≤ n → St i z → (∀ b o, g0.get? b = some o → z.heap.get? b = some o) → (∃ L es ep t, SetTR P w z.heap S L es ep t ∧ Got ks i L) →
      (∀ z' L es ep t, Moved (S :: wr) G z z' → SetTR P w z'.heap S L es ep t → Got ks n L → (∀ b o, g0.get? b = some o → z'.heap.get? b = some o) → R (.ok (.ret .none)) z') →
      codeAny (model P w) A (.builtin "set.update.loop" ⟨[.ref S, .ref I], []⟩) R z := by
  have Sw : S ∉ wr := fun q => hSf (W.sub _ q)
  have up : ∀ b ∈ wr, b ∈ S :: wr := fun b q => List.mem_cons_of_mem _ q
  have stay : ∀ {z z' : Shared}, Moved wr G z z' → (∀ b o, g0.get? b = some o → z.heap.get? b = some o) → ∀ b o, g0.get? b = some o → z'.heap.get? b = some o := by
    intro z z' mv kp b o e
    refine mv.heap b o (fun q => ?_) (kp b o e)
    rw [gw b q] at e
    cases e
  induction left with
  | zero =>
    rintro i z hz hi st kp ⟨L, es, ep, t, hS, g⟩ fin
    obtain rfl : i = n := by omega
    refine codeAny_builtin F.entry_set_update_loop ?_
    rw [Around.under_plainId F.plain_set_update_loop _]
    show wpAny _ A.in1 (pyNext (.ref I) >>= _) _ _ z
    refine wpAny_bind (W.done z _ _ st fun z' mv => ?_)
    show wpAny _ A.in1 (ret Value.none) _ _ z'
    have kp' := stay mv kp
    refine wpAny_pure (fin z' L es ep t (mv.mono up) (hS.keep (fun o e => mv.heap S o Sw e) fun p hp => ?_) g kp')
    exact isT_keep (hk p (List.mem_of_mem_take (g.sub p hp))) kp'
  | succ left ih =>
    rintro i z hz hi st kp ⟨L, es, ep, t, hS, g⟩ fin
    have lt : i < n := by omega
    refine codeAny_builtin F.entry_set_update_loop ?_
    rw [Around.under_plainId F.plain_set_update_loop _]
    show wpAny _ A.in1 (pyNext (.ref I) >>= _) _ _ z
    refine wpAny_bind (W.item i z _ _ lt st fun v z' pv st' mv => ?_)
    obtain ⟨p, hp, rfl⟩ := val i v pv
    have kp' := stay mv kp
    have sub : ∀ p ∈ L, p ∈ ks := fun p q => List.mem_of_mem_take (g.sub p q)
    have hS' : SetTR P w z'.heap S L es ep t := hS.keep (fun o e => mv.heap S o Sw e) fun q hq => isT_keep (hk q (sub q hq)) kp'
    have hx : IsT P w z'.heap p.2 p.1 := isT_keep (hk p (List.mem_of_getElem? hp)) kp'
    have lf := few L sub hS'.nd
    show wpAny _ A.in1 (holding [Value.ref p.1] (setAdd S (.ref p.1)) >>= _) _ _ z'
    refine wpAny_bind (wpAny_holding ?_)
    unfold setAdd
    refine wpAny_holding (wpAny_bind (wpAny_pyHash_tuple hu hx ?_))
    refine add_at (s := { z' with toks := z'.toks + (p.2.length + 1) }) hS' hx hu (by omega) fun b h' L' es' ep' t' sb hS2 c1 c2 => ?_
    have g' : Got ks (i + 1) L' := by
      by_cases c : p.2 ∈ L.map (·.2)
      · exact (c1 c) ▸ g.same hp c
      · exact g.more hp (c2 c)
    have kp2 : ∀ b o, g0.get? b = some o → h'.get? b = some o := by
      intro b o e
      refine (sb.2 b fun q => ?_).trans (kp' b o e)
      rw [q, gS] at e
      cases e
    refine wpAny_pure ⟨plainId_quiet F.plain_set_update_loop _, ih (i + 1) _ (by omega) lt (W.frame _ z' _ _ st' (Nat.le_add_right _ _) fun b hb o e => ?_) kp2 ⟨L', es', ep', t', hS2, g'⟩ fun z2 L2 es2 ep2 t2 mv2 hS3 g2 kp3 => ?_⟩
    · rw [sb.2 b (fun q : b = S => hSf (q ▸ hb))]
      exact e
    · refine fin z2 L2 es2 ep2 t2 (Moved.trans W.gtrans ((mv.mono up).then_heap (Nat.le_add_right _ _) fun b o hb e => ?_) mv2) hS3 g2 kp3
      rw [sb.2 b (fun q : b = S => hb (q ▸ List.mem_cons_self))]
      exact e

set_option maxHeartbeats 8000000 in
/-- set(xs), xs a list of tuples of ints, few unlike ones -/
theorem set_of_list {l : Addr} {items : Array Value} (ks : Ks) {Q : Value → Shared → Prop} (calm : A.handled = none) (hl : s.heap.IsList l items) (hit : items.toList = ks.map fun p => Value.ref p.1)
    (hk : ∀ p ∈ ks, IsT P w s.heap p.2 p.1) (few : Few ks) (hu : A.units + 3 < cLine)
    (q : ∀ (h' : Heap) (tk : Nat) L es ep t, SetTR P w h' s.heap.objs.size L es ep t → Got ks ks.length L → (∀ b o, s.heap.get? b = some o → h'.get? b = some o) → Q (.ref s.heap.objs.size) { s with heap := h', toks := tk }) :
    wpAny (model P w) A (call (.type "set") [.ref l]) Q E s := by
  have siz : items.size = ks.length := by rw [← Array.length_toList, hit, List.length_map]
  obtain ⟨c, tl, hmro⟩ := F.called_set.mro
  have made := F.called_set.made
  have sub_ := F.called_set.sub
  have notT := F.called_set.notType
  have canC := F.called_set.canCreate
  have one := F.typeCall_set_1 (.ref l)
  let o0 : Obj := { cls := .type "set", dict := none, data := .set #[] 0 (.fresh 0 0 (!w.params.followText "set-order")) }
  refine wpAny_call (codeAny_of_tree ?_)
  show wpAny _ _ (callAny (.type "set") _) _ _ _
  refine wpAny_pure ⟨Code.quiet_builtin _ (by decide +kernel), codeAny_builtin F.entry_type_call ?_⟩
  rw [Around.under_plain (weight_type_call_type "set" [.ref l] []) rfl]
  repeat (any_goals (first | assumption | wp_step))
  refine codeAny_mono (code_set_led1 (.ref l) (E := E) (Q₁ := fun obj z => obj = .ref s.heap.objs.size ∧ z = { s with heap := s.heap.push o0 }) ⟨rfl, rfl⟩) fun r z hr => ?_
  cases r with
  | error e => exact hr
  | ok fl =>
    cases fl with
    | ret obj =>
      obtain ⟨rfl, rfl⟩ := hr
      have hS : (s.heap.push o0).get? s.heap.objs.size = some o0 := Heap.get?_push_size _ rfl
      have hT : Shared.TypeIs { s with heap := s.heap.push o0 } (.ref s.heap.objs.size) "set" := ⟨_, hS, rfl⟩
      have look := F.called_set.init.lookup
      have bind_ := F.called_set.init.bind (.ref s.heap.objs.size)
      repeat (any_goals (first | assumption | wp_step))
      refine codeAny_mono (codeAny_call_builtin (R := wants (fun r z2 => r = .none ∧ ∃ h' tk L es ep t, z2 = { s with heap := h', toks := tk } ∧ SetTR P w h' s.heap.objs.size L es ep t ∧ Got ks ks.length L ∧
          (∀ b o, s.heap.get? b = some o → h'.get? b = some o)) E) F.called_set.init.plain F.entry_set_init (check_set_init_1 hT ?_)) fun r2 z2 hr2 => ?_
      · obtain ⟨ol, hol, hcl, nl, hdl⟩ := hl
        obtain ⟨ocls, odict, odata, oslots⟩ := ol
        simp only at hcl hdl
        subst hcl
        subst hdl
        have hol' : (s.heap.push o0).get? l = some { cls := .type "list", dict := odict, data := .seq items nl, slots := oslots } := Heap.get?_push_of_some _ hol
        have n1 := F.sub_list_set
        have n2 := F.sub_list_frozenset
        have n3 : (Value.type "list" == Value.type "dict") = false := by decide
        have hl1 : (s.heap.push o0).IsList l items := ⟨_, hol', rfl, nl, rfl⟩
        unfold Builtin.«set.__init__» noKeywords Builtin.Frozenset.updateFrom
        generalize hPI : pyIter = PI
        wp_walk
        subst hPI
        refine wpAny_pyIter_list hl1 (wpAny_bind (wpAny_runValue ?_))
        have below : l < s.heap.objs.size := Heap.lt_size hol
        have calm3 : A.in1.in1.in1.handled = none := by simp [calm]
        have up1 : (s.heap.push o0).objs.size = s.heap.objs.size + 1 := Heap.size_push ..
        have ne1 : l ≠ (s.heap.push o0).objs.size := up1 ▸ Nat.ne_of_lt (Nat.lt_succ_of_lt below)
        have ne2 : s.heap.objs.size ∉ [(s.heap.push o0).objs.size, l] := by
          rw [up1]
          simp only [List.mem_cons, List.not_mem_nil, or_false, not_or]
          exact ⟨Nat.ne_of_lt (Nat.lt_succ_self _), Nat.ne_of_gt below⟩
        have val : ∀ (i : Nat) (v : Value), items[i]? = some v → ∃ p, ks[i]? = some p ∧ v = .ref p.1 := by
          intro i v hv
          have e : (ks.map fun p => Value.ref p.1)[i]? = some v := by
            rw [← hit, Array.getElem?_toList]
            exact hv
          rw [List.getElem?_map] at e
          cases e2 : ks[i]? with
          | none => simp [e2] at e
          | some p => exact ⟨p, rfl, by simpa [e2] using e.symm⟩
        have off : ∀ b, s.heap.objs.size ≤ b → s.heap.get? b = none := by
          intro b hb
          cases e : s.heap.get? b with
          | none => rfl
          | some o => exact (Nat.not_lt.mpr hb (Heap.lt_size e)).elim
        refine grow_loop ((Walks.list calm3 _ l ne1 items).toS) s.heap.objs.size ne2 ks siz few val s.heap hk (off _ (Nat.le_refl _)) (fun b hb => off b (by
            rw [List.mem_singleton.mp hb, up1]
            exact Nat.le_succ _)) hu (items.size - 0) 0 _ (by omega) (Nat.zero_le _)
          ⟨⟨_, Heap.get?_push_size _ rfl, rfl, rfl⟩, hl1.push _⟩ (fun b o e => Heap.get?_push_of_some _ (Heap.get?_push_of_some _ e)) ?start ?fin
        case start =>
          exact ⟨[], #[], 0, _, setTR_fresh (Heap.get?_push_of_some _ hS), Got.zero ks⟩
        case fin =>
          rintro ⟨h', g2, d', tk', os'⟩ L es ep t mv hS' got kp
          obtain rfl : g2 = s.gens := mv.gens
          obtain rfl : d' = s.drawn := mv.drawn
          obtain rfl : os' = s.os := mv.os
          show wpAny _ _ _ _ _ _
          refine wpAny_pure ?_
          show wpAny _ _ (ret Value.none) _ _ _
          exact wpAny_pure ⟨rfl, h', tk', L, es, ep, t, rfl, hS', siz ▸ got, kp⟩
      · cases r2 with
        | error e => exact hr2
        | ok fl2 =>
          cases fl2 with
          | ret r =>
            obtain ⟨rfl, h', tk, L, es, ep, t, rfl, hS', got, kp⟩ := hr2
            repeat (any_goals (first | assumption | wp_step))
            exact q _ _ _ _ _ _ hS' got kp
          | _ => exact hr2.elim
    | _ => exact hr.elim

set_option maxHeartbeats 8000000 in
/-- set(xs), xs a tuple of tuples of ints, few unlike ones -/
theorem set_of_tuple {l : Addr} {items : Array Value} (ks : Ks) {Q : Value → Shared → Prop} (calm : A.handled = none) (hl : s.heap.IsTuple l items) (hit : items.toList = ks.map fun p => Value.ref p.1)
    (hk : ∀ p ∈ ks, IsT P w s.heap p.2 p.1) (few : Few ks) (hu : A.units + 3 < cLine)
    (q : ∀ (h' : Heap) (tk : Nat) L es ep t, SetTR P w h' s.heap.objs.size L es ep t → Got ks ks.length L → (∀ b o, s.heap.get? b = some o → h'.get? b = some o) → Q (.ref s.heap.objs.size) { s with heap := h', toks := tk }) :
    wpAny (model P w) A (call (.type "set") [.ref l]) Q E s := by
  have siz : items.size = ks.length := by rw [← Array.length_toList, hit, List.length_map]
  obtain ⟨c, tl, hmro⟩ := F.called_set.mro
  have made := F.called_set.made
  have sub_ := F.called_set.sub
  have notT := F.called_set.notType
  have canC := F.called_set.canCreate
  have one := F.typeCall_set_1 (.ref l)
  let o0 : Obj := { cls := .type "set", dict := none, data := .set #[] 0 (.fresh 0 0 (!w.params.followText "set-order")) }
  refine wpAny_call (codeAny_of_tree ?_)
  show wpAny _ _ (callAny (.type "set") _) _ _ _
  refine wpAny_pure ⟨Code.quiet_builtin _ (by decide +kernel), codeAny_builtin F.entry_type_call ?_⟩
  rw [Around.under_plain (weight_type_call_type "set" [.ref l] []) rfl]
  repeat (any_goals (first | assumption | wp_step))
  refine codeAny_mono (code_set_led1 (.ref l) (E := E) (Q₁ := fun obj z => obj = .ref s.heap.objs.size ∧ z = { s with heap := s.heap.push o0 }) ⟨rfl, rfl⟩) fun r z hr => ?_
  cases r with
  | error e => exact hr
  | ok fl =>
    cases fl with
    | ret obj =>
      obtain ⟨rfl, rfl⟩ := hr
      have hS : (s.heap.push o0).get? s.heap.objs.size = some o0 := Heap.get?_push_size _ rfl
      have hT : Shared.TypeIs { s with heap := s.heap.push o0 } (.ref s.heap.objs.size) "set" := ⟨_, hS, rfl⟩
      have look := F.called_set.init.lookup
      have bind_ := F.called_set.init.bind (.ref s.heap.objs.size)
      repeat (any_goals (first | assumption | wp_step))
      refine codeAny_mono (codeAny_call_builtin (R := wants (fun r z2 => r = .none ∧ ∃ h' tk L es ep t, z2 = { s with heap := h', toks := tk } ∧ SetTR P w h' s.heap.objs.size L es ep t ∧ Got ks ks.length L ∧
          (∀ b o, s.heap.get? b = some o → h'.get? b = some o)) E) F.called_set.init.plain F.entry_set_init (check_set_init_1 hT ?_)) fun r2 z2 hr2 => ?_
      · obtain ⟨ol, hol, hcl, nl, hdl⟩ := hl
        obtain ⟨ocls, odict, odata, oslots⟩ := ol
        simp only at hcl hdl
        subst hcl
        subst hdl
        have hol' : (s.heap.push o0).get? l = some { cls := .type "tuple", dict := odict, data := .seq items nl, slots := oslots } := Heap.get?_push_of_some _ hol
        have n1 := F.sub_tuple_set
        have n2 := F.sub_tuple_frozenset
        have n3 : (Value.type "tuple" == Value.type "dict") = false := by decide
        have hl1 : (s.heap.push o0).IsTuple l items := ⟨_, hol', rfl, nl, rfl⟩
        unfold Builtin.«set.__init__» noKeywords Builtin.Frozenset.updateFrom
        generalize hPI : pyIter = PI
        wp_walk
        subst hPI
        refine wpAny_pyIter_tuple hl1 (wpAny_bind (wpAny_runValue ?_))
        have below : l < s.heap.objs.size := Heap.lt_size hol
        have calm3 : A.in1.in1.in1.handled = none := by simp [calm]
        have up1 : (s.heap.push o0).objs.size = s.heap.objs.size + 1 := Heap.size_push ..
        have ne1 : l ≠ (s.heap.push o0).objs.size := up1 ▸ Nat.ne_of_lt (Nat.lt_succ_of_lt below)
        have ne2 : s.heap.objs.size ∉ [(s.heap.push o0).objs.size, l] := by
          rw [up1]
          simp only [List.mem_cons, List.not_mem_nil, or_false, not_or]
          exact ⟨Nat.ne_of_lt (Nat.lt_succ_self _), Nat.ne_of_gt below⟩
        have val : ∀ (i : Nat) (v : Value), items[i]? = some v → ∃ p, ks[i]? = some p ∧ v = .ref p.1 := by
          intro i v hv
          have e : (ks.map fun p => Value.ref p.1)[i]? = some v := by
            rw [← hit, Array.getElem?_toList]
            exact hv
          rw [List.getElem?_map] at e
          cases e2 : ks[i]? with
          | none => simp [e2] at e
          | some p => exact ⟨p, rfl, by simpa [e2] using e.symm⟩
        have off : ∀ b, s.heap.objs.size ≤ b → s.heap.get? b = none := by
          intro b hb
          cases e : s.heap.get? b with
          | none => rfl
          | some o => exact (Nat.not_lt.mpr hb (Heap.lt_size e)).elim
        refine grow_loop ((Walks.tuple calm3 _ l ne1 items).toS) s.heap.objs.size ne2 ks siz few val s.heap hk (off _ (Nat.le_refl _)) (fun b hb => off b (by
            rw [List.mem_singleton.mp hb, up1]
            exact Nat.le_succ _)) hu (items.size - 0) 0 _ (by omega) (Nat.zero_le _)
          ⟨⟨_, Heap.get?_push_size _ rfl, rfl, rfl⟩, hl1.push _⟩ (fun b o e => Heap.get?_push_of_some _ (Heap.get?_push_of_some _ e)) ?start ?fin
        case start =>
          exact ⟨[], #[], 0, _, setTR_fresh (Heap.get?_push_of_some _ hS), Got.zero ks⟩
        case fin =>
          rintro ⟨h', g2, d', tk', os'⟩ L es ep t mv hS' got kp
          obtain rfl : g2 = s.gens := mv.gens
          obtain rfl : d' = s.drawn := mv.drawn
          obtain rfl : os' = s.os := mv.os
          show wpAny _ _ _ _ _ _
          refine wpAny_pure ?_
          show wpAny _ _ (ret Value.none) _ _ _
          exact wpAny_pure ⟨rfl, h', tk', L, es, ep, t, rfl, hS', siz ▸ got, kp⟩
      · cases r2 with
        | error e => exact hr2
        | ok fl2 =>
          cases fl2 with
          | ret r =>
            obtain ⟨rfl, h', tk, L, es, ep, t, rfl, hS', got, kp⟩ := hr2
            repeat (any_goals (first | assumption | wp_step))
            exact q _ _ _ _ _ _ hS' got kp
          | _ => exact hr2.elim
    | _ => exact hr.elim
end
section
variable {X : Cx}
/-- set(x), x a list or a tuple of tuples of ints -/
def rSetKs (K : PySem.W.Frag) (P : Program) (w : World) : List V → Hp → VK → Prop := fun xs H Q => ∃ (l : Addr) (ks : Ks), xs = [V.ref l] ∧ (SqL K H l (ks.map fun p => V.ref p.1) ∨ SqT K H l (ks.map fun p => V.ref p.1)) ∧ (∀ p ∈ ks, SqT K H p.1 (p.2.map V.int)) ∧ Few ks ∧
  ∀ a L, H a = none → (∀ p ∈ L, p ∈ ks) → (∀ p ∈ ks, p.2 ∈ L.map (·.2)) → Q (.ref a) (upd H a (SetTO P w a L))
theorem cr_setKs (hc : X.calm = true) (hu : X.A.units + 64 < cLine) : CallR X (.type "set") (rSetKs X.K X.prog X.w) := by
  intro pins s σ H xs us Q I r h
  obtain ⟨l, ks, rfl, hl, hk, hf, q⟩ := h
  rw [Vals.ref1 r]
  have hn : H s.heap.objs.size = none := I.hok.fresh (Nat.le_refl _)
  have fin : ∀ (h' : Heap) (tk : Nat) L es ep t, SetTR X.prog X.w h' s.heap.objs.size L es ep t → Got ks ks.length L → (∀ b o, s.heap.get? b = some o → h'.get? b = some o) → EP X pins σ Q (.ref s.heap.objs.size) { s with heap := h', toks := tk } := by
    intro h' tk L es ep t R g k
    refine ⟨.ref s.heap.objs.size, upd H s.heap.objs.size (SetTO X.prog X.w s.heap.objs.size L), I.laid (t' := tk) k (Nat.le_refl _) (setTO_new R.t0), rfl, q _ L hn (fun p hp => List.mem_of_mem_take (g.sub p hp)) fun p hp => g.all p ?_⟩
    rw [List.take_length]
    exact hp
  rcases hl with hl | hl
  · obtain ⟨its, rv, pl, hz⟩ := I.list hl
    exact set_of_list (P := X.prog) (w := X.w) ks (I.ok.hd hc) pl.isList (by simpa using refs_of_vals rv) (fun p hp => I.isT (hk p hp)) hf (by omega) fin
  · obtain ⟨its, rv, pl, hz⟩ := I.tuple hl
    exact set_of_tuple (P := X.prog) (w := X.w) ks (I.ok.hd hc) pl (by simpa using refs_of_vals rv) (fun p hp => I.isT (hk p hp)) hf (by omega) fin
/-- xs[k] for an operator's store -/
def rGetN (K : PySem.W.Frag) : V → V → Hp → VK → Prop := fun x y H Q => ∃ (p : Addr) (xs : List V) (k : Nat) (v : V), x = .ref p ∧ y = .int k ∧ SqL K H p xs ∧ xs[k]? = some v ∧ Q v H
theorem pget_list : PGet X (rGetN X.K) := by
  intro pins s σ H o i ov iv Q I r1 r2 h
  obtain ⟨p, xs, k, v, rfl, rfl, hs, hv, q⟩ := h
  cases r1
  obtain ⟨t, rfl⟩ := r2
  obtain ⟨its, rv, pl, hz⟩ := I.list hs
  obtain ⟨u, eu, ru⟩ := rv.get hv
  have h1 : k < xs.length := (List.getElem?_eq_some_iff.mp hv).1
  have h2 := line63
  exact wpAny_getItem_list pl.isList (by omega) (by omega) (by simpa using eu) ⟨v, H, I, ru, q⟩
end
end Ev

namespace Ev
open PySem PySem.Spec PyProof.Rows L2
/-- the built-in names are not the module's own -/
structure Bl (mg : Str → Option Value) : Prop where
  int : mg "int" = none
  bool : mg "bool" = none
  len : mg "len" = none
  range : mg "range" = none
  sorted : mg "sorted" = none
  set : mg "set" = none
  tuple : mg "tuple" = none
  list : mg "list" = none
  isinstance : mg "isinstance" = none
  all : mg "all" = none
  any : mg "any" = none
  dict : mg "dict" = none
  sum : mg "sum" = none
  enumerate : mg "enumerate" = none
  min : mg "min" = none
  max : mg "max" = none
  zip : mg "zip" = none
  reversed : mg "reversed" = none
  repr : mg "repr" = none
  str : mg "str" = none
/-- a def of the module, as it is called -/
structure Df (K : PySem.W.Frag) (mg : Str → Option Value) (x : Str) (st : Stmt) (ps : List Str) (f : Addr) (fd : FuncData) : Prop where
  F : L2.Fun K x x st f fd
  b : Binds K fd ps []
  g : mg x = some (.ref f)
/-! ### rows of pairs in the heap -/
abbrev Kp := List (Addr × Pr)
def kv (ks : Kp) : List V := ks.map fun k => V.ref k.1
def kp (ks : Kp) : List Pr := ks.map (·.2)
def KsAt (K : PySem.W.Frag) (H : Hp) (ks : Kp) : Prop := ∀ k ∈ ks, SqT K H k.1 [.int k.2.1, .int k.2.2]
/-- all but what stands at t is as it was -/
def Keep (t : Addr) (H H' : Hp) : Prop := ∀ b o, H b = some o → b ≠ t → H' b = some o
theorem Keep.trans {t : Addr} {H H1 H2 : Hp} (a : Keep t H H1) (b : Keep t H1 H2) : Keep t H H2 := fun c o h n => b c o (a c o h n) n
theorem same_keep {t : Addr} {H H' : Hp} (a : Same H H') : Keep t H H' := fun c o h _ => a c o h
theorem Keep.upd {t : Addr} {H H' : Hp} {o : HO} (a : Keep t H H') : Keep t H (upd H' t o) := fun c u h n => by
  rw [upd_ne n]
  exact a c u h n
theorem Keep.refl (t : Addr) (H : Hp) : Keep t H H := fun _ _ h _ => h
theorem same_upd {H H' : Hp} {p : Addr} {o : HO} (a : Same H H') (h : H p = none) : Same H (upd H' p o) := fun b u e => by
  rw [upd_ne (ne_of_none e h)]
  exact a b u e
theorem Keep.new {t p : Addr} {H H' : Hp} {o : HO} (a : Keep t H H') (h : H p = none) : Keep t H (L2.upd H' p o) := fun b u e n => by
  rw [upd_ne (ne_of_none e h)]
  exact a b u e n
/-- a new object behind the others -/
theorem same_new {H : Hp} {p : Addr} {o : HO} (h : H p = none) : Same H (upd H p o) := same_upd (Same.refl H) h
section
variable {K : PySem.W.Frag} {H H' H1 : Hp} {t a p : Addr} {xs ys : List V} {ks : Kp}
theorem sqT_keep (h : SqT K H a xs) (k : Keep t H H') (ht : H t = some (.lst ys)) : SqT K H' a xs := by
  rcases h with (h | ⟨o, h⟩) | h
  · exact .inl (.inl (k _ _ h (ne_of h ht nofun)))
  · exact .inl (.inr ⟨o, k _ _ h (ne_of h ht nofun)⟩)
  · exact .inr h
theorem sqT_same (h : SqT K H a xs) (k : Same H H') : SqT K H' a xs := by
  rcases h with (h | ⟨o, h⟩) | h
  · exact .inl (.inl (k _ _ h))
  · exact .inl (.inr ⟨o, k _ _ h⟩)
  · exact .inr h
theorem sqT_of (h : H a = some (.tup xs)) : SqT K H a xs := .inl (.inl h)
theorem KsAt.keep (h : KsAt K H ks) (k : Keep t H H') (ht : H t = some (.lst ys)) : KsAt K H' ks := fun x m => sqT_keep (h x m) k ht
theorem KsAt.same (h : KsAt K H ks) (k : Same H H') : KsAt K H' ks := fun x m => sqT_same (h x m) k
theorem KsAt.sub {js : Kp} (h : KsAt K H ks) (s : ∀ j ∈ js, j ∈ ks) : KsAt K H js := fun x m => h x (s x m)
theorem KsAt.nil : KsAt K H [] := nofun
theorem KsAt.append {js : Kp} (h : KsAt K H ks) (h' : KsAt K H js) : KsAt K H (ks ++ js) := fun x m => (List.mem_append.mp m).elim (h x) (h' x)
theorem KsAt.one {q : Pr} (h : SqT K H p [.int q.1, .int q.2]) : KsAt K H [(p, q)] := fun x m => by
  cases List.mem_singleton.mp m
  exact h
/-- the pair at p as well: at a heap with this one more -/
theorem KsAt.snoc {q : Pr} (h : KsAt K H ks) (n : H p = none) : KsAt K (upd H p (.tup [.int q.1, .int q.2])) (ks ++ [(p, q)]) := (h.same (same_new n)).append (KsAt.one (sqT_of upd_same))
theorem kv_append (ks js : Kp) : kv (ks ++ js) = kv ks ++ kv js := List.map_append
theorem kp_append (ks js : Kp) : kp (ks ++ js) = kp ks ++ kp js := List.map_append
theorem kv_length (ks : Kp) : (kv ks).length = ks.length := List.length_map _
theorem kp_length (ks : Kp) : (kp ks).length = ks.length := List.length_map _
theorem kv_get {i : Nat} {k : Addr × Pr} (h : ks[i]? = some k) : (kv ks)[i]? = some (V.ref k.1) := by
  unfold kv
  rw [List.getElem?_map, h]
  rfl
theorem kp_get {i : Nat} {k : Addr × Pr} (h : ks[i]? = some k) : (kp ks)[i]? = some k.2 := by
  unfold kp
  rw [List.getElem?_map, h]
  rfl
theorem get_kv {i : Nat} {x : V} (h : (kv ks)[i]? = some x) : ∃ k, ks[i]? = some k ∧ x = V.ref k.1 := by
  unfold kv at h
  rw [List.getElem?_map] at h
  cases e : ks[i]? with
  | none => rw [e] at h; cases h
  | some k => rw [e] at h; exact ⟨k, rfl, (Option.some.inj h).symm⟩
theorem perm_map {α β : Type} (f : α → β) : ∀ {ys : List β} {xs : List α}, ys.Perm (xs.map f) → ∃ zs : List α, zs.Perm xs ∧ ys = zs.map f := by
  suffices h : ∀ {ys us : List β}, ys.Perm us → ∀ xs : List α, us = xs.map f → ∃ zs : List α, zs.Perm xs ∧ ys = zs.map f from fun {ys xs} p => h p xs rfl
  intro ys us p
  induction p with
  | nil =>
    intro xs e
    have e : xs = [] := by simpa using e.symm
    subst e
    exact ⟨[], .nil, rfl⟩
  | cons x _ ih =>
    intro xs e
    match xs, e with
    | z :: r, e =>
      simp only [List.map_cons, List.cons.injEq] at e
      obtain ⟨e1, e2⟩ := e
      obtain ⟨zs, p, e3⟩ := ih r e2
      exact ⟨z :: zs, p.cons z, by rw [e1, e3] <;> rfl⟩
  | swap x y l =>
    intro xs e
    match xs, e with
    | z :: z' :: r, e =>
      simp only [List.map_cons, List.cons.injEq] at e
      obtain ⟨e1, e2, e3⟩ := e
      exact ⟨z' :: z :: r, .swap z z' r, by rw [e1, e2, e3] <;> rfl⟩
  | trans _ _ ih1 ih2 =>
    intro xs e
    obtain ⟨zs, p, e1⟩ := ih2 xs e
    obtain ⟨zs', p', e2⟩ := ih1 zs e1
    exact ⟨zs', p'.trans p, e2⟩
/-! ### sorted, of pairs -/
theorem bd_pair {q : Pr} (h : 0 ≤ q.1 ∧ q.1 < 64 ∧ 0 ≤ q.2 ∧ q.2 < 64) : TS.Bd 64 [q.1, q.2] := fun m hm => by
  rcases List.mem_cons.mp hm with e | hm
  · subst e
    exact ⟨h.1, h.2.1⟩
  · rcases List.mem_cons.mp hm with e | hm
    · subst e
      exact h.2.2
    · cases hm
/-- sorted(xs), xs a list of unlike pairs -/
theorem rd_sort {x : V} {Q : VK} (h : ∃ (l : Addr) (ks : Kp), x = .ref l ∧ SqL K H l (kv ks) ∧ KsAt K H ks ∧ ks.length < 64 ∧ In 64 (kp ks) ∧ (kp ks).Nodup ∧
    ∀ (js : Kp) (p : Addr), js.Perm ks → asc (kp js) → H p = none → Q (.ref p) (upd H p (.lst (kv js)))) : rSortU K 2 64 [x] H Q := by
  obtain ⟨l, ks, rfl, hl, hk, h64, hin, nd, q⟩ := h
  refine ⟨l, kv ks, rfl, hl, by rw [kv_length]; exact h64, fun x hx => ?_, fun ys p pm pw np => ?_⟩
  · obtain ⟨k, mk, rfl⟩ := List.mem_map.mp hx
    exact ⟨[k.2.1, k.2.2], ⟨k.1, rfl, hk k mk⟩, rfl, bd_pair (hin _ (List.mem_map_of_mem mk))⟩
  · obtain ⟨js, pj, rfl⟩ := perm_map _ pm
    refine q js p pj (asc_of_perm (pj.map _) nd hin ?_) np
    have e : (kp js).Pairwise (fun p q => code p ≤ code q) ↔ _ := List.pairwise_map
    rw [e]
    refine List.Pairwise.imp_of_mem (fun {i j} mi mj c => ?_) (List.pairwise_map.mp pw)
    have c1 := c [i.2.1, i.2.2] [j.2.1, j.2.2] ⟨i.1, rfl, hk i (pj.mem_iff.mp mi)⟩ ⟨j.1, rfl, hk j (pj.mem_iff.mp mj)⟩
    rw [code_pair, code_pair] at c1
    exact c1
/-- few unlike pairs of unlike names below 8 -/
theorem few8 (ps : List Pr) (hin : In 8 ps) (ne : ∀ p ∈ ps, p.1 ≠ p.2) (nd : ps.Nodup) : ps.length < 63 := by
  have h := nat_nodup_len (ps.map fun p => (p.1 * 8 + p.2).toNat) ((List.range 64).filter fun c => c / 8 != c % 8) ?_ ?_
  · rw [List.length_map] at h
    exact Nat.lt_of_le_of_lt h (by decide)
  · refine List.pairwise_map.mpr (List.Pairwise.imp_of_mem (fun {p q} mp mq n e => n ?_) nd)
    have h1 := hin p mp
    have h2 := hin q mq
    obtain ⟨a, b⟩ := p
    obtain ⟨c, d⟩ := q
    simp only at *
    have : a = c := by omega
    have : b = d := by omega
    simp [*]
  · intro c hc
    obtain ⟨p, mp, rfl⟩ := List.mem_map.mp hc
    have h1 := hin p mp
    have h2 := ne p mp
    rw [List.mem_filter, List.mem_range]
    refine ⟨by omega, ?_⟩
    rw [bne_iff_ne]
    omega
def toK (ks : Kp) : Ks := ks.map fun k => (k.1, [k.2.1, k.2.2])
theorem pair_inj {p q : Pr} (h : ([p.1, p.2] : List Int) = [q.1, q.2]) : p = q := by
  obtain ⟨a, b⟩ := p
  simp only [List.cons.injEq, and_true] at h
  simp [h.1, h.2]
theorem of_toK : ∀ {L : Ks} {ks : Kp}, (∀ p ∈ L, p ∈ toK ks) → ∃ js : Kp, L = toK js ∧ ∀ j ∈ js, j ∈ ks
  | [], _, _ => ⟨[], rfl, nofun⟩
  | p :: L, ks, h => by
    obtain ⟨js, e, m⟩ := of_toK (L := L) (ks := ks) fun q hq => h q (List.mem_cons_of_mem _ hq)
    obtain ⟨k, mk, ek⟩ := List.mem_map.mp (h p List.mem_cons_self)
    refine ⟨k :: js, by rw [e, ← ek]; rfl, fun j hj => ?_⟩
    rcases List.mem_cons.mp hj with e | hj
    · rw [e]; exact mk
    · exact m j hj
theorem toK_snd (ks : Kp) : (toK ks).map (·.2) = (kp ks).map fun q => [q.1, q.2] := by
  unfold toK kp
  rw [List.map_map, List.map_map]
  rfl
/-- sorted(set(x)), x a list or a tuple of pairs of unlike names below 8 -/
theorem rd_sortset {P : Program} {w : World} {x : V} {Q : VK} (h : ∃ (l : Addr) (ks : Kp), x = .ref l ∧ (SqL K H l (kv ks) ∨ SqT K H l (kv ks)) ∧ KsAt K H ks ∧ In 8 (kp ks) ∧ (∀ p ∈ kp ks, p.1 ≠ p.2) ∧
    ∀ (js : Kp) (p : Addr) (H' : Hp), Same H H' → H p = none → H' p = some (.lst (kv js)) → KsAt K H' js → asc (kp js) → (∀ q, q ∈ kp js ↔ q ∈ kp ks) → Q (.ref p) H') :
    rSetKs K P w [x] H fun y H1 => rSortedT K P w [y] H1 Q := by
  obtain ⟨l, ks, rfl, hl, hk, hin, hne, q⟩ := h
  have hval : kv ks = (toK ks).map fun p => V.ref p.1 := by
    unfold kv toK
    rw [List.map_map]
    rfl
  have mem : ∀ p ∈ toK ks, ∃ k ∈ ks, p = (k.1, [k.2.1, k.2.2]) := fun p hp => by
    obtain ⟨k, mk, e⟩ := List.mem_map.mp hp
    exact ⟨k, mk, e.symm⟩
  refine ⟨l, toK ks, rfl, by rw [← hval]; exact hl, fun p hp => ?_, fun L hL nd => ?_, fun a L na sub all => ?_⟩
  · obtain ⟨k, mk, rfl⟩ := mem p hp
    exact hk k mk
  · obtain ⟨js, rfl, m⟩ := of_toK hL
    rw [toK_snd] at nd
    have nd2 : (kp js).Nodup := List.Pairwise.of_map _ (fun _ _ hne e => hne (by rw [e])) nd
    have := few8 (kp js) (fun p hp => by
      obtain ⟨j, mj, rfl⟩ := List.mem_map.mp hp
      exact hin _ (List.mem_map_of_mem (m j mj))) (fun p hp => by
      obtain ⟨j, mj, rfl⟩ := List.mem_map.mp hp
      exact hne _ (List.mem_map_of_mem (m j mj))) nd2
    unfold toK
    rw [List.length_map]
    rwa [kp_length] at this
  · obtain ⟨js, rfl, m⟩ := of_toK sub
    have sm : Same H (upd H a (SetTO P w a (toK js))) := same_new na
    have hkj : KsAt K (upd H a (SetTO P w a (toK js))) js := (KsAt.sub hk m).same sm
    have hin' : In 8 (kp js) := fun p hp => by
      obtain ⟨j, mj, rfl⟩ := List.mem_map.mp hp
      exact hin _ (List.mem_map_of_mem (m j mj))
    refine ⟨a, toK js, 2, 64, rfl, upd_same, fun p hp => ?_, by decide, fun p hp => ?_, fun L' p pm nd h64 pw np => ?_⟩
    · obtain ⟨j, mj, rfl⟩ := List.mem_map.mp hp
      exact hkj j mj
    · obtain ⟨j, mj, rfl⟩ := List.mem_map.mp hp
      exact ⟨rfl, bd_pair ((hin'.mono (by decide)) _ (List.mem_map_of_mem mj))⟩
    · obtain ⟨ds, pd, rfl⟩ := perm_map _ pm
      have np' : H p = none := sm.free np
      have nd1 : (kp ds).Nodup := by
        have nd0 : ((toK ds).map (·.2)).Nodup := nd
        rw [toK_snd] at nd0
        exact List.Pairwise.of_map _ (fun _ _ hne e => hne (by rw [e])) nd0
      have as : asc (kp ds) := by
        refine asc_of_perm (.refl _) nd1 (fun p hp => ?_) ?_
        · obtain ⟨j, mj, rfl⟩ := List.mem_map.mp hp
          exact (hin'.mono (by decide)) _ (List.mem_map_of_mem (pd.mem_iff.mp mj))
        · have e : (kp ds).Pairwise (fun p q => code p ≤ code q) ↔ _ := List.pairwise_map
          rw [e]
          refine List.Pairwise.imp (fun {i j} c => ?_) (List.pairwise_map.mp pw)
          rw [code_pair, code_pair] at c
          exact c
      have hv : ((ds.map fun k => (k.1, [k.2.1, k.2.2])).map fun q => V.ref q.1) = kv ds := by
        unfold kv
        rw [List.map_map]
        rfl
      rw [hv]
      refine q ds p _ (same_upd sm np') np' upd_same (((KsAt.sub hkj fun j mj => pd.mem_iff.mp mj)).same (same_new np)) as fun r => ?_
      constructor
      · intro hr
        obtain ⟨d, md, rfl⟩ := List.mem_map.mp hr
        exact List.mem_map_of_mem (m d (pd.mem_iff.mp md))
      · intro hr
        obtain ⟨k, mk, rfl⟩ := List.mem_map.mp hr
        have h1 := all (k.1, [k.2.1, k.2.2]) (List.mem_map.mpr ⟨k, mk, rfl⟩)
        rw [toK_snd] at h1
        obtain ⟨r, mr, er⟩ := List.mem_map.mp h1
        have e := pair_inj er
        obtain ⟨j, mj, rfl⟩ := List.mem_map.mp mr
        rw [← e]
        exact List.mem_map_of_mem (pd.mem_iff.mpr mj)
end
end Ev

namespace Ev
open PySem L2
/-! ### the tape -/
/-- what stands at the tape: the script's copy at l, of n cells; where it stands; the digits held; the mix; the picks -/
def TapeO (l : Addr) (n : Nat) (o : HO) : Prop := ∃ (pos : Nat) (big mix cnt : Int), pos ≤ n ∧ o = .lst [.ref l, .int pos, .int big, .int mix, .int cnt]
structure TapeAt (H : Hp) (t l : Addr) (ns : List Int) : Prop where
  ob : ∃ o, H t = some o ∧ TapeO l ns.length o
  ls : H l = some (.lst (ns.map V.int))
theorem TapeAt.ne {H : Hp} {t l : Addr} {ns : List Int} (T : TapeAt H t l ns) : l ≠ t := by
  obtain ⟨o, h, p, b, m, c, hp, rfl⟩ := T.ob
  refine ne_of T.ls h fun e => ?_
  have e2 := HO.lst.inj e
  cases ns with
  | nil => cases e2
  | cons x r => cases (List.cons.inj e2).1
theorem TapeAt.put {H : Hp} {t l : Addr} {ns : List Int} (T : TapeAt H t l ns) {o : HO} (h : TapeO l ns.length o) : TapeAt (upd H t o) t l ns :=
  ⟨⟨o, upd_same, h⟩, by rw [upd_ne T.ne]; exact T.ls⟩
theorem TapeAt.keepNew {H H' : Hp} {t l : Addr} {ns : List Int} (T : TapeAt H t l ns) (k : Same H H') : TapeAt H' t l ns := by
  obtain ⟨o, h, r⟩ := T.ob
  exact ⟨⟨o, k _ _ h, r⟩, k _ _ T.ls⟩
theorem TapeAt.off {H : Hp} {t l p : Addr} {ns : List Int} {o : HO} (T : TapeAt H t l ns) (h1 : p ≠ t) (h2 : p ≠ l) : TapeAt (upd H p o) t l ns := by
  obtain ⟨u, h, r⟩ := T.ob
  exact ⟨⟨u, by rw [upd_ne h1.symm]; exact h, r⟩, by rw [upd_ne h2.symm]; exact T.ls⟩
theorem TapeAt.lst {H : Hp} {t l : Addr} {ns : List Int} (T : TapeAt H t l ns) : ∃ ys, H t = some (.lst ys) := by
  obtain ⟨o, h, p, b, m, c, _, rfl⟩ := T.ob
  exact ⟨_, h⟩
end Ev

namespace Ev
open PySem L2
open C8 (pss_cut tCut)
def topS (i : Nat) : Stmt := PySem.Challenge.pw_evenorders_k03_webs_are_compared.main.body.getD i (.Pass ⟨0, 0, 0, 0⟩)
section
variable {P : Program} {w : World} {K : PySem.W.Frag} {mg : Str → Option Value} {base : Heap}
def sp_tape (K : PySem.W.Frag) : Sp := fun vs H Q _ => ∃ (a : Addr) (ns : List Int), vs = [.ref a] ∧ SqL K H a (ns.map V.int) ∧
  ∀ t l H', H l = none → H t = none → t ≠ l → TapeAt H' t l ns → (∀ b, b ≠ t → b ≠ l → H' b = H b) → Q (.ref t) H'
abbrev s_law_tape : Stmt := topS 16
theorem sc_law_tape : FnScope ["script"] ["script"] (defScope s_law_tape) := ⟨rfl, rfl, rfl, by decide +kernel, rfl, by decide +kernel, by decide +kernel⟩
theorem ok_tape {f : Addr} {fd : FuncData} (F : Fun K "_law_tape" "_law_tape" s_law_tape f fd) (B : Bl mg) : FnOk P w K mg base CX0 1 f fd ["script"] (sp_tape K) := by
  refine F.ok sc_law_tape (fun vs H Q E h => ?_) (fun cdv A outer s H vs Q E hr h => ?_)
  · obtain ⟨a, ns, rfl, _⟩ := h
    rfl
  · obtain ⟨a, ns, rfl, hS, q⟩ := h
    refine ⟨_, pss_one (ps_ret (pe_lst (pa_cons (pe_callTy call_list_of (by rfl) B.list (by decide +kernel) (pa_cons (pv 0) pa_nil)) (pa_cons (pe_int) (pa_cons (pe_int) (pa_cons (pe_int) (pa_cons (pe_int) pa_nil))))))), ?_⟩
    refine ⟨_, rfl, a, _, rfl, .inl hS, fun l nl => ⟨(by show 5 ≤ sizeLine; decide), fun t nt => ?_⟩⟩
    have ne : t ≠ l := fun e => by
      rw [e, upd_same] at nt
      cases nt
    have nt' : H t = none := by
      rw [upd_ne ne] at nt
      exact nt
    refine q t l _ nl nt' ne ⟨⟨_, upd_same, 0, 0, 1, 0, Nat.zero_le _, rfl⟩, by rw [upd_ne ne.symm, upd_same]⟩ fun b h1 h2 => by rw [upd_ne h1, upd_ne h2]
def sp_pick (K : PySem.W.Frag) : Sp := fun vs H Q _ => ∃ (t l : Addr) (ns : List Int) (m : Int), vs = [.ref t, .int m] ∧ TapeAt H t l ns ∧ 0 < m ∧ m < 1000000 ∧
  ∀ (v : Nat) o, (v : Int) < m → TapeO l ns.length o → Q (.int v) (upd H t o)
abbrev s_law_pick : Stmt := topS 17
theorem sc_law_pick : FnScope ["tape", "many", "digit", "cell", "mixed"] ["tape", "many"] (defScope s_law_pick) := ⟨rfl, rfl, rfl, by decide +kernel, rfl, by decide +kernel, by decide +kernel⟩
theorem ok_pick {f : Addr} {fd : FuncData} (F : Fun K "_law_pick" "_law_pick" s_law_pick f fd) (B : Bl mg) : FnOk P w K mg base CX0 1 f fd ["tape", "many"] (sp_pick K) := by
  refine F.ok sc_law_pick (fun vs H Q E h => ?_) (fun cdv A outer s H vs Q E hr h => ?_)
  · obtain ⟨t, l, ns, m, rfl, _⟩ := h
    rfl
  · obtain ⟨t, l, ns, m, rfl, T, h0, h1, q⟩ := h
    refine ⟨_, pss_cons (ps_if (pt_cmpR op_gt (pe_ix ix_list (pv 0) (pe_int) (fun _ _ => rfl)) (pe_int) (nomark _))
        (pss_cons (ps_set (i := 2) sc_law_pick.nd rfl (Or.inl rfl) (pe_op op_modN (pe_callTy call_int1 (by rfl) B.int (by decide +kernel) (pa_cons (pe_ix ix_list (pv 0) (pe_int) (fun _ _ => rfl)) pa_nil)) (pv 1)))
        (pss_cons (ps_asg (pe_op op_fdivN (pe_ix ix_list (pv 0) (pe_int) (fun _ _ => rfl)) (pv 1)) (pg_sub (pv 0) (pe_int) set_list))
        (pss_one (ps_ret (pv 2)))))
        (pss_nil))
      (pss_cons (ps_asg (pe_op op_add (pe_ix ix_list (pv 0) (pe_int) (fun _ _ => rfl)) (pe_int)) (pg_sub (pv 0) (pe_int) set_list))
      (pss_cons (ps_set (i := 3) sc_law_pick.nd rfl (Or.inl rfl) (pe_int))
      (pss_cut (ps_if (pt_cmpR op_lt (pe_ix ix_list (pv 0) (pe_int) (fun _ _ => rfl)) (pe_callB call_len_seq (by rfl) B.len (by decide +kernel) (pa_cons (pe_ix ix_list (pv 0) (pe_int) (fun _ _ => rfl)) pa_nil)) (nomark _))
        (pss_cons (ps_set (i := 3) sc_law_pick.nd rfl (Or.inl rfl) (pe_ix ix_list (pe_ix ix_list (pv 0) (pe_int) (fun _ _ => rfl)) (pe_ix ix_list (pv 0) (pe_int) (fun _ _ => rfl)) (fun _ _ => rfl)))
        (pss_one (ps_asg (pe_op op_add (pe_ix ix_list (pv 0) (pe_int) (fun _ _ => rfl)) (pe_int)) (pg_sub (pv 0) (pe_int) set_list))))
        (pss_nil))
      (pss_cons (ps_if (pt_cmpR op_ge (pv 3) (pe_op op_pow (pe_int) (pe_int)) (nomark _))
        (pss_cons (ps_asg (pe_op op_fdivN (pv 3) (pv 1)) (pg_sub (pv 0) (pe_int) set_list))
        (pss_one (ps_ret (pe_op op_modN (pe_callTy call_int1 (by rfl) B.int (by decide +kernel) (pa_cons (pv 3) pa_nil)) (pv 1)))))
        (pss_nil))
      (pss_cons (ps_set (i := 4) sc_law_pick.nd rfl (Or.inl rfl) (pe_op op_modN (pe_callTy call_int1 (by rfl) B.int (by decide +kernel) (pa_cons (pe_op op_add (pe_op op_add (pe_op op_mul (pe_ix ix_list (pv 0) (pe_int) (fun _ _ => rfl)) (pe_int)) (pe_op op_modN (pe_callTy call_int1 (by rfl) B.int (by decide +kernel) (pa_cons (pv 3) pa_nil)) (pe_int))) (pe_op op_mul (pe_ix ix_list (pv 0) (pe_int) (fun _ _ => rfl)) (pe_int))) pa_nil)) (pe_int)))
      (pss_cons (ps_set (i := 4) sc_law_pick.nd rfl (Or.inl rfl) (pe_op op_modN (pe_callTy call_int1 (by rfl) B.int (by decide +kernel) (pa_cons (pe_op op_mul (pv 4) (pe_op op_add (pe_op op_fdivN (pv 4) (pe_int)) (pe_int))) pa_nil)) (pe_int)))
      (pss_cons (ps_asg (pv 4) (pg_sub (pv 0) (pe_int) set_list))
      (pss_one (ps_ret (pe_op op_modN (pe_callTy call_int1 (by rfl) B.int (by decide +kernel) (pa_cons (pe_op op_fdivN (pv 4) (pe_int)) pa_nil)) (pv 1))))))))))), ?_⟩
    replace q : ∀ v o, 0 ≤ v → v < m → TapeO l ns.length o → Q (.int v) (upd H t o) := fun v o v0 v1 ho => by
      obtain ⟨k, rfl⟩ := Int.eq_ofNat_of_zero_le v0
      exact q k o v1 ho
    obtain ⟨⟨o, ht, pos, big, mix, cnt, hp, rfl⟩, hl⟩ := id T
    have hm : m.natAbs < 1073741824 := by omega
    have hm0 : m ≠ 0 := by omega
    have hv0 : ∀ x : Int, 0 ≤ x.fmod m := fun x => Int.fmod_nonneg_of_pos x h0
    have hv1 : ∀ x : Int, x.fmod m < m := fun x => Int.fmod_lt_of_pos x h0
    -- if tape[2] > 1
    refine ⟨_, rfl, _, _, _, _, rfl, rfl, SqL.of ht, rfl, _, _, rfl, rfl, _, rfl, ?_⟩
    refine ite2 (fun _ => ?_) (fun _ => ?_)
    · refine ⟨_, rfl, _, _, _, _, rfl, rfl, SqL.of ht, rfl, .inl ⟨_, rfl, _, rfl, _, _, rfl, rfl, hm0, ?_⟩⟩
      refine ⟨_, rfl, _, _, _, _, rfl, rfl, SqL.of ht, rfl, _, rfl, _, _, rfl, rfl, ⟨hm0, hm⟩, _, rfl, _, _, _, _, rfl, rfl, ht, rfl, ?_⟩
      exact ⟨_, rfl, q _ _ (hv0 _) (hv1 _) ⟨pos, _, mix, cnt, hp, rfl⟩⟩
    -- tape[4] = tape[4] + 1; cell = 0
    · refine ⟨_, rfl, _, _, _, _, rfl, rfl, SqL.of ht, rfl, _, _, rfl, rfl, _, rfl, _, _, _, _, rfl, rfl, ht, rfl, ?_⟩
      refine ⟨fun σ' H' => ∃ (c : Int) (o : HO), σ' = [some (.ref t), some (.int m), none, some (.int c), none] ∧ TapeO l ns.length o ∧ H' = upd H t o, ?_, ?_⟩
      · have ht1 : (upd H t (.lst [.ref l, .int pos, .int big, .int mix, .int (cnt + 1)])) t = some (.lst [.ref l, .int pos, .int big, .int mix, .int (cnt + 1)]) := upd_same
        have hl1 : (upd H t (.lst [.ref l, .int pos, .int big, .int mix, .int (cnt + 1)])) l = some (.lst (ns.map V.int)) := by
          rw [upd_ne T.ne]; exact hl
        refine ⟨_, rfl, _, _, _, _, rfl, rfl, SqL.of ht1, rfl, _, rfl, _, _, _, _, rfl, rfl, SqL.of ht1, rfl, _, _, rfl, .inl (SqL.of hl1), _, _, rfl, rfl, _, rfl, ?_⟩
        refine ite2 (fun hc => ?_) (fun _ => ?_)
        · have hlt : pos < ns.length := by
            have := of_decide_eq_true hc
            rw [List.length_map] at this
            omega
          have hg : (ns.map V.int)[pos]? = some (V.int ns[pos]) := by
            rw [List.getElem?_map, List.getElem?_eq_getElem hlt]
            rfl
          refine ⟨_, rfl, _, _, _, _, rfl, rfl, SqL.of ht1, rfl, _, rfl, _, _, _, _, rfl, rfl, SqL.of ht1, rfl, _, _, _, _, rfl, rfl, SqL.of hl1, atI_nat hg, ?_⟩
          refine ⟨_, rfl, _, _, _, _, rfl, rfl, SqL.of ht1, rfl, _, _, rfl, rfl, _, rfl, _, _, _, _, rfl, rfl, ht1, rfl, ?_⟩
          exact ⟨ns[pos], _, rfl, ⟨pos + 1, big, mix, cnt + 1, hlt, rfl⟩, upd_upd⟩
        · exact ⟨0, _, rfl, ⟨pos, big, mix, cnt + 1, hp, rfl⟩, rfl⟩
      · rintro σ' H' ⟨c, o, rfl, ⟨p2, b2, x2, c2, hp2, rfl⟩, rfl⟩
        have ht2 : (upd H t (.lst [.ref l, .int p2, .int b2, .int x2, .int c2])) t = some (.lst [.ref l, .int p2, .int b2, .int x2, .int c2]) := upd_same
        -- if cell >= 10 ** 18
        refine ⟨_, rfl, _, _, rfl, rfl, ⟨by decide, by decide, by decide⟩, _, _, rfl, rfl, _, rfl, ?_⟩
        refine ite2 (fun _ => ?_) (fun _ => ?_)
        · refine ⟨_, rfl, _, rfl, _, _, rfl, rfl, ⟨hm0, hm⟩, _, rfl, _, _, _, _, rfl, rfl, ht2, rfl, ?_⟩
          refine ⟨_, rfl, .inl ⟨_, rfl, _, rfl, _, _, rfl, rfl, hm0, ?_⟩⟩
          rw [upd_upd]
          exact q _ _ (hv0 _) (hv1 _) ⟨p2, _, x2, c2, hp2, rfl⟩
        · refine ⟨_, rfl, _, _, _, _, rfl, rfl, SqL.of ht2, rfl, _, _, rfl, rfl, .inr ⟨by decide, by decide⟩, ?_⟩
          refine ⟨_, rfl, .inl ⟨_, rfl, _, _, rfl, rfl, (by show (2147483629 : Int) ≠ 0; decide), _, _, rfl, rfl, ?_⟩⟩
          refine ⟨_, rfl, _, _, _, _, rfl, rfl, SqL.of ht2, rfl, _, _, rfl, rfl, .inr ⟨by decide, by decide⟩, _, _, rfl, rfl, .inl ⟨_, rfl, _, _, rfl, rfl, (by show (2147483647 : Int) ≠ 0; decide), ?_⟩⟩
          refine ⟨_, rfl, _, rfl, _, _, rfl, rfl, ⟨by decide, by decide⟩, _, _, rfl, rfl, _, _, rfl, rfl, .inl ⟨Int.lt_of_lt_of_le (by decide) (Int.fmod_nonneg_of_pos _ (by decide)), Int.lt_trans (Int.fmod_lt_of_pos _ (by decide)) (by decide)⟩, .inl ⟨_, rfl, _, _, rfl, rfl, (by show (2147483399 : Int) ≠ 0; decide), ?_⟩⟩
          refine ⟨_, rfl, _, rfl, _, _, _, _, rfl, rfl, ht2, rfl, ?_⟩
          refine ⟨_, rfl, _, _, rfl, rfl, ⟨by decide, by decide⟩, .inl ⟨_, rfl, _, rfl, _, _, rfl, rfl, hm0, ?_⟩⟩
          rw [upd_upd]
          exact q _ _ (hv0 _) (hv1 _) ⟨p2, b2, _, c2, hp2, rfl⟩
end
end Ev

namespace Ev
open PySem L2
open C8 (pss_cut tCut)
/-! ### a row of names, and the pairs drawn of it -/
structure RowOk (n : Nat) (rs : List Int) : Prop where
  len : rs.length = n
  nd : rs.Nodup
  bd : ∀ x ∈ rs, 0 ≤ x ∧ x < n
theorem RowOk.ins {n : Nat} {rs : List Int} (h : RowOk n rs) (k : Nat) : RowOk (n + 1) (rs.take k ++ [(n : Int)] ++ rs.drop k) := by
  have pm : (rs.take k ++ [(n : Int)] ++ rs.drop k).Perm ((n : Int) :: rs) := by
    rw [List.append_assoc]
    refine (List.perm_append_comm_assoc _ _ _).trans ?_
    rw [List.take_append_drop]
    exact .refl _
  refine ⟨by rw [pm.length_eq, List.length_cons, h.len], pm.nodup_iff.mpr (List.nodup_cons.mpr ⟨fun m => ?_, h.nd⟩), fun x m => ?_⟩
  · have := h.bd _ m
    omega
  · rcases List.mem_cons.mp (pm.mem_iff.mp m) with e | m
    · omega
    · have := h.bd _ m
      omega
structure Fnd (rs : List Int) (c : Nat) (ps : List Pr) : Prop where
  mem : ∀ p ∈ ps, p.1 ∈ rs ∧ p.2 ∈ rs ∧ plc rs p.1 < plc rs p.2 ∧ plc rs p.2 < rs.length
  key : ∀ p ∈ ps, plc rs p.1 * 64 + plc rs p.2 < c
  pw : ps.Pairwise fun p q => plc rs p.1 * 64 + plc rs p.2 < plc rs q.1 * 64 + plc rs q.2
theorem Fnd.nil (rs : List Int) (c : Nat) : Fnd rs c [] := ⟨nofun, nofun, .nil⟩
theorem Fnd.mono {rs : List Int} {c d : Nat} {ps : List Pr} (h : Fnd rs c ps) (l : c ≤ d) : Fnd rs d ps := ⟨h.mem, fun p m => Nat.lt_of_lt_of_le (h.key p m) l, h.pw⟩
theorem Fnd.step {rs : List Int} {ps : List Pr} {i j : Nat} {a b : Int} (h : Fnd rs (i * 64 + j) ps) (nd : rs.Nodup) (ha : rs[i]? = some a) (hb : rs[j]? = some b) (l : i < j) : Fnd rs (i * 64 + (j + 1)) (ps ++ [(a, b)]) := by
  have ea := plc_get nd ha
  have eb := plc_get nd hb
  have hj : j < rs.length := (List.getElem?_eq_some_iff.mp hb).1
  refine ⟨fun p m => ?_, fun p m => ?_, List.pairwise_append.mpr ⟨h.pw, List.pairwise_singleton _ _, fun p m q m' => ?_⟩⟩
  · rcases List.mem_append.mp m with m | m
    · exact h.mem p m
    · rw [List.mem_singleton.mp m]
      exact ⟨List.mem_of_getElem? ha, List.mem_of_getElem? hb, by simp only [ea, eb]; exact l, by simp only [eb]; exact hj⟩
  · rcases List.mem_append.mp m with m | m
    · have := h.key p m
      omega
    · rw [List.mem_singleton.mp m]
      simp only [ea, eb]
      omega
  · rw [List.mem_singleton.mp m']
    simp only [ea, eb]
    exact h.key p m
theorem Fnd.nodup {rs : List Int} {c : Nat} {ps : List Pr} (h : Fnd rs c ps) : ps.Nodup := h.pw.imp fun {p q} l e => by
  subst e
  omega
theorem Fnd.in {n : Nat} {rs : List Int} {c : Nat} {ps : List Pr} (h : Fnd rs c ps) (r : RowOk n rs) : In n ps := fun p m => by
  obtain ⟨h1, h2, _⟩ := h.mem p m
  exact ⟨(r.bd _ h1).1, (r.bd _ h1).2, (r.bd _ h2).1, (r.bd _ h2).2⟩
theorem Fnd.ne {rs : List Int} {c : Nat} {ps : List Pr} (h : Fnd rs c ps) : ∀ p ∈ ps, p.1 ≠ p.2 := fun p m e => by
  have := (h.mem p m).2.2.1
  rw [e] at this
  omega
theorem Fnd.ups {n : Nat} {rs : List Int} {c : Nat} {ps : List Pr} (h : Fnd rs c ps) (r : RowOk n rs) : Ups n (plc rs) ps :=
  ⟨fun a b m => (h.mem _ m).2.2.1, fun a b m => r.len ▸ (h.mem _ m).2.2.2⟩
theorem Fnd.few {n : Nat} {rs : List Int} {c : Nat} {ps : List Pr} (h : Fnd rs c ps) (r : RowOk n rs) (hn : n ≤ 8) : ps.length < 63 :=
  few8 ps ((h.in r).mono (by omega)) h.ne h.nodup
section
variable {P : Program} {w : World} {K : PySem.W.Frag} {mg : Str → Option Value} {base : Heap}
/-- what a draw of pairs hands back: p stands at ks -/
structure Drawn (n : Nat) (ps : List Pr) : Prop where
  asc : asc ps
  bd : In n ps
  up : ∃ r, Ups n r ps
def sp_pairs (K : PySem.W.Frag) : Sp := fun vs H Q _ => ∃ (t l : Addr) (ns : List Int) (m : Nat), vs = [.ref t, .int m] ∧ TapeAt H t l ns ∧ 1 ≤ m ∧ m ≤ 8 ∧
  ∀ p ks H', Keep t H H' → TapeAt H' t l ns → H p = none → H' p = some (.tup (kv ks)) → KsAt K H' ks → Drawn m (kp ks) → Q (.ref p) H'
abbrev s_law_pairs : Stmt := topS 19
theorem sc_law_pairs : FnScope ["tape", "many", "row", "name", "thin", "found", "at", "other"] ["tape", "many"] (defScope s_law_pairs) := ⟨rfl, rfl, rfl, by decide +kernel, rfl, by decide +kernel, by decide +kernel⟩
theorem keep_free {t p : Addr} {H H' : Hp} {ys : List V} (k : Keep t H H') (ht : H t = some (.lst ys)) (n : H' p = none) (hp : p ≠ t) : H p = none := by
  cases e : H p with
  | none => rfl
  | some o =>
    rw [k p o e hp] at n
    cases n
theorem ne_of_tape {H : Hp} {t p : Addr} {ys : List V} (ht : H t = some (.lst ys)) (n : H p = none) : p ≠ t := fun e => by
  rw [e, ht] at n
  cases n
theorem small64 {n : Nat} (h : n ≤ 64) : n < sizeLine := Nat.lt_of_le_of_lt h (by decide)
theorem ok_pairs {f fP : Addr} {fd fdP : FuncData} (F : Fun K "_law_pairs" "_law_pairs" s_law_pairs f fd) (D : Df K mg "_law_pick" s_law_pick ["tape", "many"] fP fdP)
    (B : Bl mg) : FnOk P w K mg base CX0 2 f fd ["tape", "many"] (sp_pairs K) := by
  have GP : FnOk P w K mg base CX0 1 fP fdP ["tape", "many"] (sp_pick K) := ok_pick D.F B
  refine F.ok sc_law_pairs (fun vs H Q E h => ?_) (fun cdv A outer s H vs Q E hr h => ?_)
  · obtain ⟨t, l, ns, m, rfl, _⟩ := h
    rfl
  · obtain ⟨t, l, ns, m, rfl, T, h1, h8, q⟩ := h
    obtain ⟨ys0, ht0⟩ := T.lst
    refine ⟨_, pss_cons (ps_set (i := 2) sc_law_pairs.nd rfl (Or.inl rfl) (pe_lst pa_nil))
      (pss_cut (ps_for PassesOwn.never rfl (pi_range1 (by rfl) B.range (pa_cons (pv 1) pa_nil)) (pg_name (i := 3) sc_law_pairs.nd rfl (Or.inl rfl))
        (pss_one (ps_expr (pe_bm PySem.F.plainAttrs_list PySem.F.slot_list_insert PySem.F.type_list_insert mt_insert (pv 2) (pa_cons (pe_call GP hr rfl D.g D.F.kp D.b .nil pass0 (pa_cons (pv 0) (pa_cons (pe_op op_add (pv 3) (pe_int)) pa_nil))) (pa_cons (pv 3) pa_nil))))))
      (pss_cons (ps_set (i := 4) sc_law_pairs.nd rfl (Or.inl rfl) (pe_op op_add (pe_int) (pe_call GP hr rfl D.g D.F.kp D.b .nil pass0 (pa_cons (pv 0) (pa_cons (pe_int) pa_nil)))))
      (pss_cons (ps_set (i := 5) sc_law_pairs.nd rfl (Or.inl rfl) (pe_lst pa_nil))
      (pss_cut (ps_for PassesOwn.never rfl (pi_range1 (by rfl) B.range (pa_cons (pv 1) pa_nil)) (pg_name (i := 6) sc_law_pairs.nd rfl (Or.inl rfl))
        (pss_one (ps_for PassesOwn.never rfl (pi_range2 (by rfl) B.range (pa_cons (pe_op op_add (pv 6) (pe_int)) (pa_cons (pv 1) pa_nil))) (pg_name (i := 7) sc_law_pairs.nd rfl (Or.inl rfl))
          (pss_one (ps_if (pt_cmpR op_eq (pe_call GP hr rfl D.g D.F.kp D.b .nil pass0 (pa_cons (pv 0) (pa_cons (pv 4) pa_nil))) (pe_int) (nomark _))
            (pss_one (ps_expr (pe_bm PySem.F.plainAttrs_list PySem.F.slot_list_append PySem.F.type_list_append mt_append (pv 5) (pa_cons (pe_tup (pa_cons (pe_ix ix_list (pv 2) (pv 6) (fun _ _ => rfl)) (pa_cons (pe_ix ix_list (pv 2) (pv 7) (fun _ _ => rfl)) pa_nil))) pa_nil))))
            (pss_nil))))))
      (pss_one (ps_ret (pe_callTy call_tuple_of (by rfl) B.tuple (by decide +kernel) (pa_cons (pe_callB (cr_sortT (d := 2) (B := 64) (by decide)) (by rfl) B.sorted (by decide +kernel) (pa_cons (pv 5) pa_nil)) pa_nil)))))))), ?_⟩
    -- row = []
    refine ⟨Nat.zero_le _, fun r nr => ?_⟩
    have rt : r ≠ t := ne_of_tape ht0 nr
    -- for name in range(many)
    refine ⟨fun σ' H' => ∃ (rs : List Int) (v : Option V), σ' = [some (.ref t), some (.int m), some (.ref r), v, none, none, none, none] ∧ RowOk m rs ∧ H' r = some (.lst (rs.map V.int)) ∧ Keep t H H' ∧ TapeAt H' t l ns, ?_, ?_⟩
    · refine ⟨_, rfl, m, rfl, by omega, by omega, for_range (lo := 0) (n := m) (fun i σ' H' => ∃ (rs : List Int) (v : Option V), σ' = [some (.ref t), some (.int m), some (.ref r), v, none, none, none, none] ∧ RowOk i rs ∧ H' r = some (.lst (rs.map V.int)) ∧ Keep t H H' ∧ TapeAt H' t l ns) ?_ ?_ ?_⟩
      · exact ⟨[], none, rfl, ⟨rfl, .nil, nofun⟩, upd_same, (Keep.refl t H).new nr, T.keepNew (same_new nr)⟩
      · rintro i σ' H1 hi ⟨rs, v, rfl, R, hr1, k1, T1⟩
        refine ⟨_, rfl, .inl ⟨rfl, _, SqL.of hr1⟩, _, rfl, _, rfl, _, _, rfl, rfl, t, l, ns, _, rfl, T1, by omega, by omega, fun vn o v1 ho => ?_⟩
        have v0 : (0 : Int) ≤ (vn : Int) := by omega
        generalize (vn : Int) = v at v0 v1 ⊢
        have hr2 : (upd H1 t o) r = some (.lst (rs.map V.int)) := by
          rw [upd_ne rt]
          exact hr1
        refine ⟨_, rfl, r, _, v, _, rfl, rfl, hr2, ?_, v0, by omega, ?_⟩
        · rw [List.length_map, R.len]
          exact small64 (by omega)
        · have e : ((rs.map V.int).take v.toNat ++ [V.int (0 + i)] ++ (rs.map V.int).drop v.toNat) = (rs.take v.toNat ++ [(i : Int)] ++ rs.drop v.toNat).map V.int := by
            rw [List.map_append, List.map_append, List.map_take, List.map_drop, Int.zero_add]
            rfl
          rw [e]
          refine ⟨_, _, rfl, R.ins v.toNat, upd_same, (k1.upd.new (o := _) nr), ?_⟩
          exact (T1.put ho).off rt (ne_of_none T.ls nr).symm
      · rintro σ' H1 ⟨rs, v, rfl, R, hr1, k1, T1⟩
        exact ⟨rs, v, rfl, R, hr1, k1, T1⟩
    · rintro σ' H1 ⟨rs, v, rfl, R, hr1, k1, T1⟩
      have rl : r ≠ l := (ne_of_none T.ls nr).symm
      -- thin = 2 + _law_pick(tape, 4); found = []
      refine ⟨_, rfl, t, l, ns, 4, rfl, T1, by decide, by decide, fun vn o v1 ho => ⟨_, _, rfl, rfl, Nat.zero_le _, fun d nd => ?_⟩⟩
      have v0 : (0 : Int) ≤ (vn : Int) := by omega
      generalize (vn : Int) = v4 at v0 v1 ⊢
      have T2 := T1.put ho
      have hr2 : (upd H1 t o) r = some (.lst (rs.map V.int)) := by
        rw [upd_ne rt]
        exact hr1
      have k2 : Keep t H (upd H1 t o) := k1.upd
      obtain ⟨ys2, ht2⟩ := T2.lst
      have dt : d ≠ t := ne_of_tape ht2 nd
      have dl : d ≠ l := (ne_of_none T2.ls nd).symm
      have dr : d ≠ r := (ne_of_none hr2 nd).symm
      have nd0 : H d = none := keep_free k2 ht0 nd dt
      -- for at in range(many)
      refine ⟨fun σ' H' => ∃ (ks : Kp) (a b c : Option V), σ' = [some (.ref t), some (.int m), some (.ref r), v, some (.int (2 + v4)), some (.ref d), a, b] ∧ Fnd rs (m * 64) (kp ks) ∧ H' d = some (.lst (kv ks)) ∧ KsAt K H' ks ∧ Keep t H H' ∧ TapeAt H' t l ns, ?_, ?_⟩
      · refine ⟨_, rfl, m, rfl, by omega, by omega, for_range (lo := 0) (n := m) (fun i σ' H' => ∃ (ks : Kp) (a b : Option V), σ' = [some (.ref t), some (.int m), some (.ref r), v, some (.int (2 + v4)), some (.ref d), a, b] ∧ Fnd rs (i * 64) (kp ks) ∧ H' d = some (.lst (kv ks)) ∧ KsAt K H' ks ∧ H' r = some (.lst (rs.map V.int)) ∧ Keep t H H' ∧ TapeAt H' t l ns) ?_ ?_ ?_⟩
        · exact ⟨[], none, none, rfl, .nil _ _, upd_same, .nil, by rw [upd_ne dr.symm]; exact hr2, k2.new nd0, T2.off dt dl⟩
        · rintro i σ' H3 hi ⟨ks, a, b, rfl, fn, hd3, hk3, hr3, k3, T3⟩
          -- for other in range(at + 1, many)
          refine ⟨_, rfl, _, _, rfl, rfl, _, rfl, 0 + (i : Int) + 1, m, rfl, ⟨by omega, by omega, by omega, by omega⟩, for_range (lo := 0 + (i : Int) + 1) (n := ((m : Int) - (0 + (i : Int) + 1)).toNat) (fun j σ' H' => ∃ (ks : Kp) (b : Option V), σ' = [some (.ref t), some (.int m), some (.ref r), v, some (.int (2 + v4)), some (.ref d), some (.int (0 + i)), b] ∧ Fnd rs (i * 64 + (i + 1 + j)) (kp ks) ∧ H' d = some (.lst (kv ks)) ∧ KsAt K H' ks ∧ H' r = some (.lst (rs.map V.int)) ∧ Keep t H H' ∧ TapeAt H' t l ns) ?_ ?_ ?_⟩
          · exact ⟨ks, b, rfl, fn.mono (by omega), hd3, hk3, hr3, k3, T3⟩
          · rintro j σ' H4 hj ⟨ks, b, rfl, fn, hd4, hk4, hr4, k4, T4⟩
            have hjm : i + 1 + j < m := by omega
            obtain ⟨ys4, ht4⟩ := T4.lst
            -- if _law_pick(tape, thin) == 0
            refine ⟨_, rfl, _, rfl, t, l, ns, _, rfl, T4, by omega, by omega, fun v5 o5 v51 ho5 => ⟨rfl, _, rfl, ?_⟩⟩
            have T5 := T4.put ho5
            have hd5 : (upd H4 t o5) d = some (.lst (kv ks)) := by
              rw [upd_ne dt]
              exact hd4
            have hr5 : (upd H4 t o5) r = some (.lst (rs.map V.int)) := by
              rw [upd_ne rt]
              exact hr4
            have k5 : Keep t H (upd H4 t o5) := k4.upd
            have hk5 : KsAt K (upd H4 t o5) ks := hk4.keep (Keep.refl t H4).upd ht4
            have gi : rs[i]? = some (rs[i]'(by rw [R.len]; omega)) := List.getElem?_eq_getElem _
            have gj : rs[i + 1 + j]? = some (rs[i + 1 + j]'(by rw [R.len]; omega)) := List.getElem?_eq_getElem _
            generalize hx : rs[i]'(by rw [R.len]; omega) = x at gi
            generalize hy : rs[i + 1 + j]'(by rw [R.len]; omega) = y at gj
            have gix : (rs.map V.int)[i]? = some (V.int x) := by
              rw [List.getElem?_map, gi]
              rfl
            have gjy : (rs.map V.int)[i + 1 + j]? = some (V.int y) := by
              rw [List.getElem?_map, gj]
              rfl
            have ei : (0 : Int) + (i : Int) = ((i : Nat) : Int) := by omega
            have ej : (0 : Int) + (i : Int) + 1 + (j : Int) = ((i + 1 + j : Nat) : Int) := by omega
            refine ite2 (fun _ => ?_) (fun _ => ?_)
            · obtain ⟨ys5, ht5⟩ := T5.lst
              refine ⟨_, rfl, .inl ⟨rfl, _, SqL.of hd5⟩, _, rfl, _, rfl, _, _, _, _, rfl, rfl, SqL.of hr5, by rw [ei]; exact atI_nat gix, _, rfl, _, rfl, _, _, _, _, rfl, rfl, SqL.of hr5, by rw [ej]; exact atI_nat gjy, (by show 2 ≤ sizeLine; decide), fun p np => ?_⟩
              have pt : p ≠ t := ne_of_tape ht5 np
              have pl : p ≠ l := (ne_of_none T5.ls np).symm
              have pd : d ≠ p := ne_of_none hd5 np
              have pr : r ≠ p := ne_of_none hr5 np
              have np0 : H p = none := keep_free k5 ht0 np pt
              refine ⟨d, _, _, rfl, rfl, by rw [upd_ne pd]; exact hd5, ?_, ?_⟩
              · have := fn.few R h8
                rw [kp_length] at this
                rw [kv_length]
                exact small64 (by omega)
              · have nd0' : H d = none := nd0
                refine ⟨ks ++ [(p, (x, y))], _, rfl, ?_, ?_, ?_, ?_, (k5.new np0).new nd0', (T5.off pt pl).off dt dl⟩
                · rw [kp_append]
                  exact fn.step R.nd gi gj (by omega)
                · rw [kv_append]
                  exact upd_same
                · exact (hk5.snoc np).keep (t := d) (Keep.refl d _).upd (by rw [upd_ne pd]; exact hd5)
                · rw [upd_ne dr.symm, upd_ne pr]
                  exact hr5
            · exact ⟨ks, _, rfl, fn.mono (by omega), hd5, hk5, hr5, k5, T5⟩
          · rintro σ' H4 ⟨ks, b, rfl, fn, hd4, hk4, hr4, k4, T4⟩
            exact ⟨ks, _, _, rfl, fn.mono (by omega), hd4, hk4, hr4, k4, T4⟩
        · rintro σ' H3 ⟨ks, a, b, rfl, fn, hd3, hk3, hr3, k3, T3⟩
          exact ⟨ks, a, b, none, rfl, fn, hd3, hk3, k3, T3⟩
      · rintro σ' H3 ⟨ks, a, b, c, rfl, fn, hd3, hk3, k3, T3⟩
        obtain ⟨ys3, ht3⟩ := T3.lst
        have fw := fn.few R h8
        rw [kp_length] at fw
        refine ⟨_, rfl, ?_⟩
        dsimp only [tNil]
        refine rd_sort ⟨d, ks, rfl, SqL.of hd3, hk3, by omega, ((fn.in R).mono (by omega)), fn.nodup, fun js p pm as np => ?_⟩
        have pt : p ≠ t := ne_of_tape ht3 np
        have pl : p ≠ l := (ne_of_none T3.ls np).symm
        have np0 : H p = none := keep_free k3 ht0 np pt
        refine ⟨p, _, rfl, .inl ⟨SqL.of upd_same, fun z nz => ?_⟩⟩
        have nz3 : H3 z = none := (same_new np).free nz
        have zt : z ≠ t := ne_of_tape ht3 nz3
        have zl : z ≠ l := (ne_of_none T3.ls nz3).symm
        have mem : ∀ x ∈ kp js, x ∈ kp ks := fun x m => (pm.map _).mem_iff.mp m
        exact q z js _ ((k3.new np0).new (keep_free k3 ht0 nz3 zt)) ((T3.off pt pl).off zt zl) (keep_free k3 ht0 nz3 zt) upd_same (((hk3.sub fun j m => pm.mem_iff.mp m).same (same_new np)).same (same_new nz))
          ⟨as, (fn.in R).sub mem, plc rs, (fn.ups R).sub mem⟩
end
end Ev

namespace Ev
open PySem L2
open C8 (pss_cut tCut)
/-! ### the law's own closing -/
def comp (a b : Int) (l : List Pr) : List Pr := (l.filter fun q => decide (q.1 = b)).map fun q => (a, q.2)
theorem comp_mem {a b : Int} {l : List Pr} {x y : Int} : (x, y) ∈ comp a b l ↔ x = a ∧ (b, y) ∈ l := by
  unfold comp
  rw [List.mem_map]
  constructor
  · rintro ⟨⟨c, d⟩, m, e⟩
    rw [List.mem_filter] at m
    obtain ⟨m, k⟩ := m
    have k := of_decide_eq_true k
    cases e
    cases k
    exact ⟨rfl, m⟩
  · rintro ⟨rfl, m⟩
    exact ⟨(b, y), List.mem_filter.mpr ⟨m, decide_eq_true rfl⟩, rfl⟩
theorem comp_length (a b : Int) (l : List Pr) : (comp a b l).length ≤ l.length := by
  unfold comp
  rw [List.length_map]
  exact List.length_filter_le _ _
theorem take_snoc {α : Type} {l : List α} {i : Nat} {x : α} (h : l[i]? = some x) : l.take (i + 1) = l.take i ++ [x] := by
  rw [List.take_add_one, h]
  rfl
theorem comp_yes {a b : Int} {l : List Pr} {i : Nat} {q : Pr} (h : l[i]? = some q) (e : q.1 = b) : comp a b (l.take (i + 1)) = comp a b (l.take i) ++ [(a, q.2)] := by
  rw [take_snoc h]
  unfold comp
  rw [List.filter_append, List.map_append]
  congr 1
  simp [e]
theorem comp_no {a b : Int} {l : List Pr} {i : Nat} {q : Pr} (h : l[i]? = some q) (e : ¬ q.1 = b) : comp a b (l.take (i + 1)) = comp a b (l.take i) := by
  rw [take_snoc h]
  unfold comp
  rw [List.filter_append, List.map_append]
  simp [e]
/-- all that follows by two -/
def twos (l r : List Pr) : List Pr := r.flatMap fun q => comp q.1 q.2 l
theorem twos_snoc {l r : List Pr} {i : Nat} {q : Pr} (h : r[i]? = some q) : twos l (r.take (i + 1)) = twos l (r.take i) ++ comp q.1 q.2 l := by
  rw [take_snoc h]
  unfold twos
  rw [List.flatMap_append, List.flatMap_singleton]
theorem twos_length {l r : List Pr} : (twos l r).length ≤ r.length * l.length := by
  induction r with
  | nil => exact Nat.zero_le _
  | cons q r ih =>
    have e : twos l (q :: r) = comp q.1 q.2 l ++ twos l r := rfl
    rw [e, List.length_append, List.length_cons, Nat.succ_mul]
    have := comp_length q.1 q.2 l
    omega
theorem twos_mem {l r : List Pr} {x y : Int} : (x, y) ∈ twos l r ↔ ∃ b, (x, b) ∈ r ∧ (b, y) ∈ l := by
  unfold twos
  rw [List.mem_flatMap]
  constructor
  · rintro ⟨⟨a, b⟩, m, h⟩
    obtain ⟨rfl, h⟩ := comp_mem.mp h
    exact ⟨b, m, h⟩
  · rintro ⟨b, m, h⟩
    exact ⟨(x, b), m, comp_mem.mpr ⟨rfl, h⟩⟩
theorem small10000 {n : Nat} (h : n ≤ 10000) : n < sizeLine := Nat.lt_of_le_of_lt h (by decide)
/-- pairs that go up, of names below 8 -/
structure UpsOk (ps : List Pr) : Prop where
  bd : In 8 ps
  up : ∃ r, Ups 8 r ps
theorem UpsOk.ne {ps : List Pr} (h : UpsOk ps) : ∀ p ∈ ps, p.1 ≠ p.2 := fun p m e => by
  obtain ⟨r, u⟩ := h.up
  have := u.up p.1 p.2 m
  rw [e] at this
  omega
theorem UpsOk.tc {ps qs : List Pr} (h : UpsOk ps) (k : ∀ p ∈ qs, Tc ps p.1 p.2) : UpsOk qs := by
  obtain ⟨r, u⟩ := h.up
  exact ⟨fun p m => (k p m).in h.bd, r, ⟨fun a b m => (u.tc (k _ m)).1, fun a b m => (u.tc (k _ m)).2⟩⟩
theorem UpsOk.sub {ps qs : List Pr} (h : UpsOk ps) (k : ∀ p ∈ qs, p ∈ ps) : UpsOk qs := h.tc fun p m => .one (k p m)
theorem UpsOk.few {ps : List Pr} (h : UpsOk ps) (a : asc ps) : ps.length < 63 := few8 ps h.bd h.ne (asc_nodup a)
theorem Rnd.tc {ps F : List Pr} {k : Nat} (h : Rnd ps k F) : ∀ p ∈ F, Tc ps p.1 p.2 := fun p m => by
  obtain ⟨n, h1, _, q⟩ := (h p.1 p.2).mp m
  exact ⟨n, h1, q⟩
theorem Drawn.ok {n : Nat} {ps : List Pr} (h : Drawn n ps) (hn : n ≤ 8) : UpsOk ps := by
  obtain ⟨r, u⟩ := h.up
  exact ⟨h.bd.mono (by omega), r, u.up, fun a b m => Nat.lt_of_lt_of_le (u.top a b m) hn⟩
section
variable {P : Program} {w : World} {K : PySem.W.Frag} {mg : Str → Option Value} {base : Heap}
def sp_closed (K : PySem.W.Frag) : Sp := fun vs H Q _ => ∃ (a : Addr) (ks : Kp), vs = [.ref a] ∧ (SqL K H a (kv ks) ∨ SqT K H a (kv ks)) ∧ KsAt K H ks ∧ UpsOk (kp ks) ∧
  ∀ p js H', Same H H' → H p = none → H' p = some (.tup (kv js)) → KsAt K H' js → Cl (kp ks) (kp js) → Q (.ref p) H'
abbrev s_law_closed : Stmt := topS 18
abbrev n_law_closed : List Str := ["pairs", "found", "turn", "more", "one", "middle", "first", "other", "pair"]
theorem sc_law_closed : FnScope n_law_closed ["pairs"] (defScope s_law_closed) := ⟨rfl, rfl, rfl, by decide +kernel, rfl, by decide +kernel, by decide +kernel⟩
theorem ok_closed {f : Addr} {fd : FuncData} (F : Fun K "_law_closed" "_law_closed" s_law_closed f fd)
    (B : Bl mg) : FnOk P w K mg base CX0 1 f fd ["pairs"] (sp_closed K) := by
  refine F.ok sc_law_closed (fun vs H Q E h => ?_) (fun cdv A outer s H vs Q E hr h => ?_)
  · obtain ⟨a, ks, rfl, _⟩ := h
    rfl
  · obtain ⟨a, ks, rfl, hS, hk, ok, q⟩ := h
    refine ⟨_, pss_cons (ps_set (i := 1) sc_law_closed.nd rfl (Or.inl rfl) (pe_callB (cr_sortedT rfl) (by rfl) B.sorted (by decide +kernel) (pa_cons (pe_callTy (cr_setKs rfl hr.units) (by rfl) B.set (by decide +kernel) (pa_cons (pv 0) pa_nil)) pa_nil)))
      (pss_cut (ps_for PassesOwn.never rfl (pi_range1 (by rfl) B.range (pa_cons (pe_int) pa_nil)) (pg_name (i := 2) sc_law_closed.nd rfl (Or.inl rfl))
        (pss_cons (ps_set (i := 3) sc_law_closed.nd rfl (Or.inl rfl) (pe_lst pa_nil))
        (pss_cut (ps_for PassesOwn.never rfl (pi_list (pv 1)) (pg_tup (by rfl) (pgs_cons (pg_name (i := 4) sc_law_closed.nd rfl (Or.inr rfl)) (pgs_cons (pg_name (i := 5) sc_law_closed.nd rfl (Or.inr rfl)) pgs_nil)))
          (pss_one (ps_set (i := 3) sc_law_closed.nd rfl (Or.inl rfl) (pe_op op_cat (pv 3) (pe_lc (own := [("first", 6), ("other", 7)]) (g := gTup K 2 (gCons (gName 6) (gCons (gName 7) gNil))) (by rfl) sc_law_closed.nd (pi_list (pv 1)) (blkOk_by (N := n_law_closed) (sc := defScope s_law_closed) (by decide +kernel)) (fun _ _ _ _ _ => by exact pg_tup (by rfl) (pgs_cons (pg_name (i := 6) sc_law_closed.nd rfl (Or.inl rfl)) (pgs_cons (pg_name (i := 7) sc_law_closed.nd rfl (Or.inl rfl)) pgs_nil))) (fun _ _ _ _ _ => by exact pts_one (pt_cmpR op_eq (pv 6) (pv 5) (nomark _))) (fun _ _ _ _ _ => by exact pe_tup (pa_cons (pv 4) (pa_cons (pv 7) pa_nil))))))))
        (pss_one (ps_set (i := 1) sc_law_closed.nd rfl (Or.inl rfl) (pe_callB (cr_sortedT rfl) (by rfl) B.sorted (by decide +kernel) (pa_cons (pe_callTy (cr_setKs rfl hr.units) (by rfl) B.set (by decide +kernel) (pa_cons (pe_op op_cat (pv 1) (pv 3)) pa_nil)) pa_nil)))))))
      (pss_cons (ps_if (pt_cmpR op_gt (pe_callB call_len_seq (by rfl) B.len (by decide +kernel) (pa_cons (pe_lc (own := [("pair", 8)]) (tt := tTest (tOp rEq (tOp (rIxT K) (tVar 8) (tC (.int 0))) (tOp (rIxT K) (tVar 8) (tC (.int 1))))) (by rfl) sc_law_closed.nd (pi_list (pv 1)) (blkOk_by (N := n_law_closed) (sc := defScope s_law_closed) (by decide +kernel)) (fun _ _ _ _ _ => pg_name (i := 8) sc_law_closed.nd rfl (Or.inl rfl)) (fun _ _ _ _ _ => by exact pts_one (pt_cmpR op_eq (pe_ix ix_tup (pv 8) (pe_int) (fun _ _ => rfl)) (pe_ix ix_tup (pv 8) (pe_int) (fun _ _ => rfl)) (nomark _))) (fun _ _ _ _ _ => pv 8)) pa_nil)) (pe_int) (nomark _))
        (pss_one (ps_ret (pe_non)))
        (pss_nil))
      (pss_one (ps_ret (pe_callTy call_tuple_of (by rfl) B.tuple (by decide +kernel) (pa_cons (pv 1) pa_nil)))))), ?_⟩
    refine ⟨_, rfl, ?_⟩
    dsimp only [tNil]
    refine rd_sortset (K := K) ⟨a, ks, rfl, hS, hk, ok.bd, ok.ne, fun fs fa H1 sm nfa hfa hkf as mem => ?_⟩
    -- for turn in range(4)
    refine ⟨fun σ' H' => ∃ (fs : Kp) (fa : Addr) (v2 v3 v4 v5 : Option V), σ' = [some (.ref a), some (.ref fa), v2, v3, v4, v5, none, none, none] ∧ Same H H' ∧ H' fa = some (.lst (kv fs)) ∧ KsAt K H' fs ∧ Rnd (kp ks) 4 (kp fs) ∧ asc (kp fs), ?_, ?_⟩
    · refine ⟨_, rfl, by decide, by decide, for_range (lo := 0) (n := 4) (fun i σ' H' => ∃ (fs : Kp) (fa : Addr) (v2 v3 v4 v5 : Option V), σ' = [some (.ref a), some (.ref fa), v2, v3, v4, v5, none, none, none] ∧ Same H H' ∧ H' fa = some (.lst (kv fs)) ∧ KsAt K H' fs ∧ Rnd (kp ks) i (kp fs) ∧ asc (kp fs)) ?_ ?_ ?_⟩
      · exact ⟨fs, fa, none, none, none, none, rfl, sm, hfa, hkf, .zero mem, as⟩
      · clear sm nfa hfa hkf as mem
        rintro i σ' H2 hi ⟨fs, fa, v2, v3, v4, v5, rfl, sm2, hfa, hkf, rnd, as⟩
        have okf : UpsOk (kp fs) := ok.tc rnd.tc
        have lf := okf.few as
        rw [kp_length] at lf
        -- more = []
        refine ⟨Nat.zero_le _, fun md nmd => ?_⟩
        have nmd0 : H md = none := sm2.free nmd
        -- for one, middle in found
        refine ⟨fun σ' H' => ∃ (ms : Kp) (md : Addr) (v4 v5 : Option V), σ' = [some (.ref a), some (.ref fa), some (.int (0 + i)), some (.ref md), v4, v5, none, none, none] ∧ Same H H' ∧ H' fa = some (.lst (kv fs)) ∧ KsAt K H' fs ∧ H' md = some (.lst (kv ms)) ∧ KsAt K H' ms ∧ kp ms = twos (kp fs) (kp fs), ?_, ?_⟩
        · refine ⟨_, rfl, fa, rfl, ⟨_, SqL.of (by rw [upd_ne (ne_of_none hfa nmd)]; exact hfa)⟩, for_list (K := K) (a := fa) (xs := kv fs) (fun j σ' H' => ∃ (ms : Kp) (md : Addr) (v4 v5 : Option V), σ' = [some (.ref a), some (.ref fa), some (.int (0 + i)), some (.ref md), v4, v5, none, none, none] ∧ Same H H' ∧ H' fa = some (.lst (kv fs)) ∧ KsAt K H' fs ∧ H' md = some (.lst (kv ms)) ∧ KsAt K H' ms ∧ kp ms = twos (kp fs) ((kp fs).take j)) ?_ ?_ ?_ ?_⟩
          · exact ⟨[], md, v4, v5, rfl, same_upd sm2 nmd0, by rw [upd_ne (ne_of_none hfa nmd)]; exact hfa, hkf.same (same_new nmd), upd_same, .nil, rfl⟩
          · rintro j σ' H3 _ ⟨ms, md, v4, v5, rfl, sm3, hfa3, _⟩
            exact SqL.of hfa3
          · clear nmd nmd0
            rintro j x σ' H3 hj ⟨ms, md, v4, v5, rfl, sm3, hfa3, hkf3, hmd3, hkm3, em⟩
            obtain ⟨⟨pa, x1, x2⟩, gk, rfl⟩ := get_kv hj
            have hjl : j < fs.length := (List.getElem?_eq_some_iff.mp gk).1
            have lm : ms.length ≤ 62 * 62 := by
              rw [← kp_length ms, em]
              refine Nat.le_trans twos_length (Nat.mul_le_mul ?_ ?_)
              · rw [List.length_take, kp_length]
                omega
              · rw [kp_length]
                omega
            refine ⟨pa, _, rfl, hkf3 _ (List.mem_of_getElem? gk), rfl, _, _, rfl, _, _, rfl, rfl, ?_⟩
            -- more + [.. for first, other in found if first == middle]
            refine ⟨_, rfl, _, rfl, fa, rfl, ⟨_, SqL.of hfa3⟩, fun D nD => ?_⟩
            have fD : fa ≠ D := ne_of_none hfa3 nD
            refine lc_list (K := K) (a := fa) (xs := kv fs) (fun n H' => ∃ acc : Kp, Same H3 H' ∧ H' D = some (.lst (kv acc)) ∧ KsAt K H' acc ∧ kp acc = comp x1 x2 ((kp fs).take n)) ?_ ?_ ?_ ?_
            · exact ⟨[], same_new nD, upd_same, .nil, rfl⟩
            · rintro n H4 _ ⟨acc, sm4, _⟩
              exact SqL.of (sm4 _ _ hfa3)
            · rintro n y H4 hn ⟨acc, sm4, hD4, hka4, ea⟩
              obtain ⟨⟨pb, y1, y2⟩, gn, rfl⟩ := get_kv hn
              have hnl : n < fs.length := (List.getElem?_eq_some_iff.mp gn).1
              have la : acc.length ≤ 62 := by
                rw [← kp_length acc, ea]
                refine Nat.le_trans (comp_length _ _ _) ?_
                rw [List.length_take, kp_length]
                omega
              refine ⟨pb, _, rfl, (hkf3.same sm4) _ (List.mem_of_getElem? gn), rfl, _, _, rfl, _, _, rfl, rfl, rfl, _, rfl, _, rfl, rfl, _, rfl, ?_⟩
              refine ite2 (fun c => ?_) (fun c => ?_)
              · have e : y1 = x2 := V.int.inj (of_decide_eq_true c)
                refine ⟨_, rfl, _, rfl, (by show 2 ≤ sizeLine; decide), fun p np => ?_⟩
                have Dp : D ≠ p := ne_of_none hD4 np
                have np3 : H3 p = none := sm4.free np
                refine ⟨kv acc, by rw [upd_ne Dp]; exact hD4, by rw [kv_length]; exact small64 (by omega), acc ++ [(p, (x1, y2))], same_upd (same_upd sm4 np3) nD, ?_, ?_, ?_⟩
                · rw [kv_append]
                  exact upd_same
                · exact (hka4.snoc (q := (x1, y2)) np).keep (t := D) (Keep.refl D _).upd (by rw [upd_ne Dp]; exact hD4)
                · rw [kp_append, ea, comp_yes (kp_get gn) e]
                  rfl
              · have e : ¬ y1 = x2 := fun e => c (decide_eq_true (by rw [e]))
                exact ⟨acc, sm4, hD4, hka4, by rw [ea, comp_no (kp_get gn) e]⟩
            · rintro H4 ⟨acc, sm4, hD4, hka4, ea⟩
              have et : (kp fs).take (kv fs).length = kp fs := List.take_of_length_le (by rw [kp_length, kv_length]; exact Nat.le_refl _)
              rw [et] at ea
              have la : acc.length ≤ 62 := by
                rw [← kp_length acc, ea]
                refine Nat.le_trans (comp_length _ _ _) ?_
                rw [kp_length]
                omega
              refine ⟨md, D, _, _, rfl, rfl, sm4 _ _ hmd3, hD4, by rw [kv_length, kv_length]; exact Nat.le_of_lt (small10000 (by omega)), fun p np => ?_⟩
              have np3 : H3 p = none := sm4.free np
              refine ⟨ms ++ acc, p, _, _, rfl, same_upd (sm3.trans sm4) (sm3.free np3), ?_, (hkf3.same sm4).same (same_new np), ?_, ((hkm3.same sm4).append hka4).same (same_new np), ?_⟩
              · rw [upd_ne (ne_of_none (sm4 _ _ hfa3) np)]
                exact sm4 _ _ hfa3
              · rw [kv_append]
                exact upd_same
              · rw [kp_append, em, ea, twos_snoc (kp_get gk)]
          · rintro σ' H3 ⟨ms, md, v4, v5, rfl, sm3, hfa3, hkf3, hmd3, hkm3, em⟩
            have et : (kp fs).take (kv fs).length = kp fs := List.take_of_length_le (by rw [kp_length, kv_length]; exact Nat.le_refl _)
            rw [et] at em
            exact ⟨ms, md, v4, v5, rfl, sm3, hfa3, hkf3, hmd3, hkm3, em⟩
        · clear nmd nmd0
          rintro σ' H3 ⟨ms, md, v4, v5, rfl, sm3, hfa3, hkf3, hmd3, hkm3, em⟩
          have lm : ms.length ≤ 62 * 62 := by
            rw [← kp_length ms, em]
            refine Nat.le_trans twos_length (Nat.mul_le_mul ?_ ?_) <;> (rw [kp_length]; omega)
          -- found = sorted(set(found + more))
          refine ⟨_, rfl, _, rfl, fa, md, _, _, rfl, rfl, hfa3, hmd3, by rw [kv_length, kv_length]; exact Nat.le_of_lt (small10000 (by omega)), fun p np => ?_⟩
          dsimp only [tNil]
          have mem2 : ∀ a c, (a, c) ∈ kp (fs ++ ms) ↔ (a, c) ∈ kp fs ∨ ∃ b, (a, b) ∈ kp fs ∧ (b, c) ∈ kp fs := fun a c => by
            rw [kp_append, List.mem_append, em, twos_mem]
          have ok2 : UpsOk (kp (fs ++ ms)) := okf.tc fun ⟨a, c⟩ m => by
            rcases (mem2 a c).mp m with m | ⟨b, m1, m2⟩
            · exact .one m
            · exact (Tc.one m1).trans (.one m2)
          refine rd_sortset (K := K) ⟨p, fs ++ ms, rfl, .inl (SqL.of (by rw [kv_append]; exact upd_same)), (hkf3.append hkm3).same (same_new np), ok2.bd, ok2.ne, fun gs ga H5 sm5 nga hga hkg ag memg => ?_⟩
          refine ⟨gs, ga, _, _, _, _, rfl, (same_upd sm3 (sm3.free np)).trans sm5, hga, hkg, rnd.succ fun a c => ?_, ag⟩
          rw [memg]
          exact mem2 a c
      · rintro σ' H2 ⟨fs, fa, v2, v3, v4, v5, rfl, sm2, hfa, hkf, rnd, as⟩
        exact ⟨fs, fa, v2, v3, v4, v5, rfl, sm2, hfa, hkf, rnd, as⟩
    · clear sm nfa hfa hkf as mem
      rintro σ' H2 ⟨fs, fa, v2, v3, v4, v5, rfl, sm2, hfa, hkf, rnd, as⟩
      have okf : UpsOk (kp fs) := ok.tc rnd.tc
      -- len([pair for pair in found if pair[0] == pair[1]]) > 0
      refine ⟨_, rfl, fa, rfl, ⟨_, SqL.of hfa⟩, fun D nD => ?_⟩
      refine lc_list (K := K) (a := fa) (xs := kv fs) (fun n H' => Same H2 H' ∧ H' D = some (.lst [])) ?_ ?_ ?_ ?_
      · exact ⟨same_new nD, upd_same⟩
      · rintro n H4 _ ⟨sm4, _⟩
        exact SqL.of (sm4 _ _ hfa)
      · rintro n y H4 hn ⟨sm4, hD4⟩
        obtain ⟨⟨pb, y1, y2⟩, gn, rfl⟩ := get_kv hn
        have mq := (hkf.same sm4) _ (List.mem_of_getElem? gn)
        refine ⟨rfl, _, rfl, _, _, _, _, rfl, rfl, mq, rfl, _, rfl, _, _, _, _, rfl, rfl, mq, rfl, rfl, _, rfl, ?_⟩
        refine ite2 (fun c => ?_) (fun _ => ⟨sm4, hD4⟩)
        exact absurd (V.int.inj (of_decide_eq_true c)) (okf.ne _ (List.mem_of_getElem? (kp_get gn)))
      · rintro H4 ⟨sm4, hD4⟩
        refine ⟨D, _, rfl, .inl (SqL.of hD4), _, _, rfl, rfl, _, rfl, ?_⟩
        refine iteF ?_
        -- return tuple(found)
        refine ⟨_, rfl, fa, _, rfl, .inl ⟨SqL.of (sm4 _ _ hfa), fun z nz => ?_⟩⟩
        obtain ⟨r, u⟩ := ok.up
        exact q z fs _ (same_upd (sm2.trans sm4) ((sm2.trans sm4).free nz)) ((sm2.trans sm4).free nz) upd_same ((hkf.same sm4).same (same_new nz)) ⟨as, rnd.done u (by decide)⟩
end
end Ev

namespace Ev
open PySem L2
/-! ### a comprehension of two clauses -/
section
variable {K : PySem.W.Frag} {g g1 : TG} {tt tt1 : TT} {te : TE} {vs vs1 : List Nat} {σ σ2 : St} {H0 H1 : Hp} {D : Addr} {Qd : Hp → Prop}
/-- the inner clause's loop, by its iterator -/
def InL (J1 : It) (g1 : TG) (tt1 : TT) (te : TE) (vs1 : List Nat) (σ2 : St) (D : Addr) (H0 : Hp) (Nx : Hp → Prop) : Prop :=
  ∃ W1 : Nat → Nat → Hp → Prop, (∃ m, W1 0 m H0) ∧ ∀ j k H, W1 j k H →
    (J1.stop j H ∧ Nx H) ∨ (J1.go j H ∧ ∃ Nx1 : Hp → Prop, (∀ H', Nx1 H' → ∃ k', k' < k ∧ W1 (j + 1) k' H') ∧ ∀ x H', J1.yld j H x H' → g1 x (wipe σ2 vs1) H' fun σ3 H5 => wipe σ3 vs1 = wipe σ2 vs1 ∧ tt1 σ3 H5 fun b H6 =>
      if b = true then te σ3 H6 fun y H7 => ∃ acc, H7 D = some (.lst acc) ∧ acc.length < sizeLine ∧ Nx1 (upd H7 D (.lst (acc ++ [y]))) else Nx1 H6)
theorem in_tup {a : Addr} {xs : List V} (Pv : Nat → Hp → Prop) (h0 : Pv 0 H0) (hl : ∀ i H, Pv i H → SqT K H a xs)
    (hs : ∀ i x H, xs[i]? = some x → Pv i H → g1 x (wipe σ2 vs1) H fun σ3 H2 => wipe σ3 vs1 = wipe σ2 vs1 ∧ tt1 σ3 H2 fun b H3 =>
      if b = true then te σ3 H3 fun y H4 => ∃ acc, H4 D = some (.lst acc) ∧ acc.length < sizeLine ∧ Pv (i + 1) (upd H4 D (.lst (acc ++ [y]))) else Pv (i + 1) H3) (hd : ∀ H, Pv xs.length H → Qd H) :
    InL (Itt K a) g1 tt1 te vs1 σ2 D H0 Qd := by
  refine ⟨fun j k H => k + j = xs.length ∧ Pv j H, ⟨xs.length, rfl, h0⟩, fun j k H ⟨e, p⟩ => ?_⟩
  have st := hl j H p
  rcases Nat.lt_or_ge j xs.length with lt | ge
  · refine .inr ⟨⟨xs, xs[j], st, List.getElem?_eq_getElem lt⟩, Pv (j + 1), fun H' p' => ⟨k - 1, by omega, by omega, p'⟩, fun x H' y => ?_⟩
    obtain ⟨rfl, f⟩ := y
    exact hs j x _ (f xs st) p
  · refine .inl ⟨⟨xs, st, ge⟩, hd H ?_⟩
    have e2 : j = xs.length := by omega
    exact e2 ▸ p
theorem in_list {a : Addr} {xs : List V} (Pv : Nat → Hp → Prop) (h0 : Pv 0 H0) (hl : ∀ i H, Pv i H → SqL K H a xs)
    (hs : ∀ i x H, xs[i]? = some x → Pv i H → g1 x (wipe σ2 vs1) H fun σ3 H2 => wipe σ3 vs1 = wipe σ2 vs1 ∧ tt1 σ3 H2 fun b H3 =>
      if b = true then te σ3 H3 fun y H4 => ∃ acc, H4 D = some (.lst acc) ∧ acc.length < sizeLine ∧ Pv (i + 1) (upd H4 D (.lst (acc ++ [y]))) else Pv (i + 1) H3) (hd : ∀ H, Pv xs.length H → Qd H) :
    InL (Itl K a) g1 tt1 te vs1 σ2 D H0 Qd := by
  refine ⟨fun j k H => k + j = xs.length ∧ Pv j H, ⟨xs.length, rfl, h0⟩, fun j k H ⟨e, p⟩ => ?_⟩
  have st := hl j H p
  rcases Nat.lt_or_ge j xs.length with lt | ge
  · refine .inr ⟨⟨xs, xs[j], st, List.getElem?_eq_getElem lt⟩, Pv (j + 1), fun H' p' => ⟨k - 1, by omega, by omega, p'⟩, fun x H' y => ?_⟩
    obtain ⟨rfl, f⟩ := y
    exact hs j x _ (f xs st) p
  · refine .inl ⟨⟨xs, st, ge⟩, hd H ?_⟩
    have e2 : j = xs.length := by omega
    exact e2 ▸ p
theorem in_range {lo : Int} {n : Nat} (Pv : Nat → Hp → Prop) (h0 : Pv 0 H0)
    (hs : ∀ i H, i < n → Pv i H → g1 (.int (lo + i)) (wipe σ2 vs1) H fun σ3 H2 => wipe σ3 vs1 = wipe σ2 vs1 ∧ tt1 σ3 H2 fun b H3 =>
      if b = true then te σ3 H3 fun y H4 => ∃ acc, H4 D = some (.lst acc) ∧ acc.length < sizeLine ∧ Pv (i + 1) (upd H4 D (.lst (acc ++ [y]))) else Pv (i + 1) H3) (hd : ∀ H, Pv n H → Qd H) :
    InL (Itr lo n) g1 tt1 te vs1 σ2 D H0 Qd := by
  refine ⟨fun j k H => k + j = n ∧ Pv j H, ⟨n, rfl, h0⟩, fun j k H ⟨e, p⟩ => ?_⟩
  rcases Nat.lt_or_ge j n with lt | ge
  · refine .inr ⟨lt, Pv (j + 1), fun H' p' => ⟨k - 1, by omega, by omega, p'⟩, fun x H' y => ?_⟩
    obtain ⟨rfl, rfl⟩ := y
    exact hs j _ lt p
  · refine .inl ⟨ge, hd H ?_⟩
    have e2 : j = n := by omega
    exact e2 ▸ p
/-- the outer clause's loop -/
def OutL (J : It) (g : TG) (tt : TT) (wi1 : TI) (g1 : TG) (tt1 : TT) (te : TE) (vs vs1 : List Nat) (σ : St) (D : Addr) (H0 : Hp) (Qd : Hp → Prop) : Prop :=
  ∃ W : Nat → Nat → Hp → Prop, (∃ m, W 0 m H0) ∧ ∀ i m H, W i m H →
    (J.stop i H ∧ Qd H) ∨ (J.go i H ∧ ∃ Nx : Hp → Prop, (∀ H', Nx H' → ∃ m', m' < m ∧ W (i + 1) m' H') ∧ ∀ x H', J.yld i H x H' → g x (wipe σ vs) H' fun σ2 H2 => wipe σ2 vs = wipe σ vs ∧ tt σ2 H2 fun b H3 =>
      if b = true then wi1 σ2 H3 fun J1 H4 => InL J1 g1 tt1 te vs1 σ2 D H4 Nx else Nx H3)
theorem out_range {lo : Int} {n : Nat} {wi1 : TI} (Pv : Nat → Hp → Prop) (h0 : Pv 0 H0)
    (hs : ∀ i H, i < n → Pv i H → g (.int (lo + i)) (wipe σ vs) H fun σ2 H2 => wipe σ2 vs = wipe σ vs ∧ tt σ2 H2 fun b H3 =>
      if b = true then wi1 σ2 H3 fun J1 H4 => InL J1 g1 tt1 te vs1 σ2 D H4 (Pv (i + 1)) else Pv (i + 1) H3) (hd : ∀ H, Pv n H → Qd H) :
    OutL (Itr lo n) g tt wi1 g1 tt1 te vs vs1 σ D H0 Qd := by
  refine ⟨fun j k H => k + j = n ∧ Pv j H, ⟨n, rfl, h0⟩, fun j k H ⟨e, p⟩ => ?_⟩
  rcases Nat.lt_or_ge j n with lt | ge
  · refine .inr ⟨lt, Pv (j + 1), fun H' p' => ⟨k - 1, by omega, by omega, p'⟩, fun x H' y => ?_⟩
    obtain ⟨rfl, rfl⟩ := y
    exact hs j _ lt p
  · refine .inl ⟨ge, hd H ?_⟩
    have e2 : j = n := by omega
    exact e2 ▸ p
end
/-! ### a value's truth, the bits of a number -/
def tTru (K : PySem.W.Frag) (t : TE) : TT := fun σ H Q => t σ H fun x H' => ∃ k, TruV K x H' k ∧ Q k H'
def rOdd : R2 := fun x y H Q => ∃ n : Nat, x = .int (n : Int) ∧ y = .int 1 ∧ Q (.int ((n % 2 : Nat) : Int)) H
def rShr : R2 := fun x y H Q => ∃ n k : Nat, x = .int (n : Int) ∧ y = .int (k : Int) ∧ Q (.int ((n / 2 ^ k : Nat) : Int)) H
theorem shr_nat (n k : Nat) : ((n : Int) / 2 ^ k) = ((n / 2 ^ k : Nat) : Int) := by
  rw [Int.natCast_ediv]
  congr 1
def rAddN : R2 := fun x y H Q => ∃ n m : Nat, x = .int (n : Int) ∧ y = .int (m : Int) ∧ Q (.int ((n + m : Nat) : Int)) H
def rLenS (K : PySem.W.Frag) : List V → Hp → VK → Prop := fun xs H Q => ∃ p ys, xs = [.ref p] ∧ (SqL K H p ys ∨ SqT K H p ys) ∧ Q (.int ys.length) H
section
variable {X : Cx}
theorem pt_tru {e : Expr} {t : TE} (h : PE X e t) (he : ∀ whole, isTrue e X.env whole = (do let v ← whole; standAt e.pos; holding [v] (truthy v)) := by intro _; rfl) : PT X e (tTru X.K t) := pt_truth h he
theorem op_oddN : OpR X (binaryOp .BitAnd) rOdd := op_odd
theorem op_shrNN : OpR X (binaryOp .RShift) rShr := by
  intro pins s σ H x y v u Q I rx ry h
  obtain ⟨n, k, rfl, rfl, q⟩ := h
  refine op_shrN pins s σ H _ _ v u Q I rx ry ⟨n, k, rfl, rfl, ?_⟩
  rw [shr_nat]
  exact q
end
/-! ### comparisons of pairs -/
theorem lex_code {p q : Pr} (h1 : 0 ≤ p.2 ∧ p.2 < 64) (h2 : 0 ≤ q.2 ∧ q.2 < 64) : HT.lexLt [p.1, p.2] [q.1, q.2] = decide (code p < code q) := by
  rw [HT.lexLt_cons]
  by_cases e : p.1 = q.1
  · rw [if_pos e, HT.lexLt_cons]
    by_cases e2 : p.2 = q.2
    · rw [if_pos e2, HT.lexLt_nil_nil]
      symm
      apply decide_eq_false
      unfold code
      omega
    · rw [if_neg e2]
      by_cases l : p.2 < q.2
      · rw [decide_eq_true l, decide_eq_true]
        unfold code
        omega
      · rw [decide_eq_false l, decide_eq_false]
        unfold code
        omega
  · rw [if_neg e]
    by_cases l : p.1 < q.1
    · rw [decide_eq_true l, decide_eq_true]
      unfold code
      omega
    · rw [decide_eq_false l, decide_eq_false]
      unfold code
      omega
theorem asc_next {ps : List Pr} (h : asc ps) {i : Nat} {p q : Pr} (hp : ps[i]? = some p) (hq : ps[i + 1]? = some q) : code p < code q := by
  obtain ⟨h1, rfl⟩ := List.getElem?_eq_some_iff.mp hp
  obtain ⟨h2, rfl⟩ := List.getElem?_eq_some_iff.mp hq
  exact List.pairwise_iff_getElem.mp h i (i + 1) h1 h2 (Nat.lt_succ_self i)
end Ev

namespace Ev
/-! ### rows of bits -/
def bitsOf (m n : Nat) : List Nat := (List.range m).filter fun k => n.testBit k
theorem bitsOf_yes {n k : Nat} (h : n.testBit k = true) : bitsOf (k + 1) n = bitsOf k n ++ [k] := by
  unfold bitsOf
  rw [List.range_succ, List.filter_append]
  simp [h]
theorem bitsOf_no {n k : Nat} (h : n.testBit k = false) : bitsOf (k + 1) n = bitsOf k n := by
  unfold bitsOf
  rw [List.range_succ, List.filter_append]
  simp [h]
theorem bitsOf_length (m n : Nat) : (bitsOf m n).length ≤ m := by
  unfold bitsOf
  exact Nat.le_trans (List.length_filter_le _ _) (by rw [List.length_range]; exact Nat.le_refl _)
/-- the bit c of the row a -/
def Mx (bs : List Nat) (a c : Int) : Prop := 0 ≤ a ∧ 0 ≤ c ∧ (bs.getD a.toNat 0).testBit c.toNat = true
theorem getD_set (bs : List Nat) (i j v : Nat) (h : i < bs.length) : (bs.set i v).getD j 0 = if j = i then v else bs.getD j 0 := by
  rw [List.getD_eq_getElem?_getD, List.getD_eq_getElem?_getD, List.getElem?_set]
  by_cases e : i = j
  · subst e
    simp [h]
  · rw [if_neg e, if_neg (fun q => e q.symm)]
theorem Mx_zero (m : Nat) (a c : Int) : ¬ Mx (List.replicate m 0) a c := fun ⟨_, _, h⟩ => by
  rw [List.getD_eq_getElem?_getD, List.getElem?_replicate] at h
  split at h <;> simp at h
theorem Mx_set {bs : List Nat} {i : Nat} {v : Nat} (h : i < bs.length) (a c : Int) : Mx (bs.set i v) a c ↔ if a = (i : Int) then 0 ≤ c ∧ v.testBit c.toNat = true else Mx bs a c := by
  unfold Mx
  rw [getD_set bs i _ v h]
  by_cases e : a = (i : Int)
  · rw [if_pos e, if_pos (by omega)]
    constructor
    · exact fun ⟨_, h1, h2⟩ => ⟨h1, h2⟩
    · exact fun ⟨h1, h2⟩ => ⟨by omega, h1, h2⟩
  · rw [if_neg e]
    by_cases ha : 0 ≤ a
    · rw [if_neg (by omega)]
    · constructor <;> exact fun ⟨h1, _⟩ => absurd h1 ha
theorem Mx_put {bs : List Nat} {i k : Nat} (h : i < bs.length) (a c : Int) : Mx (bs.set i (bs.getD i 0 ||| 2 ^ k)) a c ↔ Mx bs a c ∨ (a = (i : Int) ∧ c = (k : Int)) := by
  rw [Mx_set h]
  by_cases e : a = (i : Int)
  · rw [if_pos e, Nat.testBit_or, Nat.testBit_two_pow, Bool.or_eq_true, decide_eq_true_eq]
    unfold Mx
    subst e
    rw [Int.toNat_natCast]
    constructor
    · rintro ⟨h1, h2 | h2⟩
      · exact .inl ⟨by omega, h1, h2⟩
      · exact .inr ⟨rfl, by omega⟩
    · rintro (⟨_, h1, h2⟩ | ⟨_, h2⟩)
      · exact ⟨h1, .inl h2⟩
      · exact ⟨by omega, .inr (by omega)⟩
  · rw [if_neg e]
    constructor
    · exact .inl
    · rintro (h | ⟨h, _⟩)
      · exact h
      · exact absurd h e
theorem Mx_join {bs : List Nat} {i k : Nat} (h : i < bs.length) (a c : Int) : Mx (bs.set i (bs.getD i 0 ||| bs.getD k 0)) a c ↔ Mx bs a c ∨ (a = (i : Int) ∧ Mx bs k c) := by
  rw [Mx_set h]
  by_cases e : a = (i : Int)
  · rw [if_pos e, Nat.testBit_or, Bool.or_eq_true]
    unfold Mx
    subst e
    rw [Int.toNat_natCast, Int.toNat_natCast]
    constructor
    · rintro ⟨h1, h2 | h2⟩
      · exact .inl ⟨by omega, h1, h2⟩
      · exact .inr ⟨rfl, by omega, h1, h2⟩
    · rintro (⟨_, h1, h2⟩ | ⟨_, _, h1, h2⟩)
      · exact ⟨h1, .inl h2⟩
      · exact ⟨h1, .inr h2⟩
  · rw [if_neg e]
    constructor
    · exact .inl
    · rintro (h | ⟨h, _⟩)
      · exact h
      · exact absurd h e
theorem Mx_lt {bs : List Nat} {a c : Int} (h : Mx bs a c) : a < bs.length := by
  obtain ⟨h0, _, h⟩ := h
  rcases Int.lt_or_le a bs.length with l | l
  · exact l
  · rw [List.getD_eq_getElem?_getD, List.getElem?_eq_none (by omega)] at h
    simp at h
/-! ### going through all between -/
/-- within the turn of k, the rows below i done -/
def Mid (bs0 bs : List Nat) (k i : Nat) : Prop := bs.length = bs0.length ∧ ∀ a c, Mx bs a c ↔ Mx bs0 a c ∨ (a < i ∧ Mx bs0 a k ∧ Mx bs0 k c)
theorem Mid.zero (bs : List Nat) (k : Nat) : Mid bs bs k 0 := ⟨rfl, fun a c => ⟨.inl, fun h => h.elim id fun ⟨h, m, _⟩ => by
  have := m.1
  omega⟩⟩
theorem Mid.yes {bs0 bs : List Nat} {k i : Nat} (h : Mid bs0 bs k i) (hi : i < bs0.length) (b : (bs.getD i 0).testBit k = true) : Mid bs0 (bs.set i (bs.getD i 0 ||| bs.getD k 0)) k (i + 1) := by
  refine ⟨by rw [List.length_set, h.1], fun a c => ?_⟩
  have mk : ∀ c, Mx bs k c ↔ Mx bs0 k c := fun c => by
    rw [h.2]
    constructor
    · rintro (x | ⟨_, _, x⟩) <;> exact x
    · exact .inl
  have mik : Mx bs0 i k := by
    have x : Mx bs i k := ⟨by omega, by omega, by rw [Int.toNat_natCast, Int.toNat_natCast]; exact b⟩
    rcases (h.2 _ _).mp x with x | ⟨_, x, _⟩ <;> exact x
  rw [Mx_join (by rw [h.1]; exact hi), mk, h.2]
  constructor
  · rintro ((x | ⟨l, x, y⟩) | ⟨rfl, y⟩)
    · exact .inl x
    · exact .inr ⟨by omega, x, y⟩
    · exact .inr ⟨by omega, mik, y⟩
  · rintro (x | ⟨l, x, y⟩)
    · exact .inl (.inl x)
    · by_cases e : a = (i : Int)
      · exact .inr ⟨e, y⟩
      · exact .inl (.inr ⟨by omega, x, y⟩)
theorem Mid.no {bs0 bs : List Nat} {k i : Nat} (h : Mid bs0 bs k i) (b : (bs.getD i 0).testBit k = false) : Mid bs0 bs k (i + 1) := by
  refine ⟨h.1, fun a c => ?_⟩
  rw [h.2]
  constructor
  · rintro (x | ⟨l, x, y⟩)
    · exact .inl x
    · exact .inr ⟨by omega, x, y⟩
  · rintro (x | ⟨l, x, y⟩)
    · exact .inl x
    · by_cases e : a = (i : Int)
      · subst e
        have z : Mx bs i k := (h.2 _ _).mpr (.inl x)
        obtain ⟨_, _, z⟩ := z
        rw [Int.toNat_natCast, Int.toNat_natCast, b] at z
        cases z
      · exact .inr ⟨by omega, x, y⟩
/-- all names below k gone through -/
structure War (m : Nat) (ps : List Pr) (k : Nat) (bs : List Nat) : Prop where
  len : bs.length = m
  snd : ∀ a c, Mx bs a c → Tc ps a c
  has : ∀ a c, (a, c) ∈ ps → Mx bs a c
  cls : ∀ a j c : Int, j < (k : Int) → Mx bs a j → Mx bs j c → Mx bs a c
theorem War.zero {m : Nat} {ps : List Pr} {bs : List Nat} (hl : bs.length = m) (h : ∀ a c, Mx bs a c ↔ (a, c) ∈ ps) : War m ps 0 bs :=
  ⟨hl, fun a c x => .one ((h a c).mp x), fun a c x => (h a c).mpr x, fun a j c l x y => by
    have := x.2.1
    omega⟩
theorem War.next {m : Nat} {ps : List Pr} {bs0 bs : List Nat} {k : Nat} (w : War m ps k bs0) (h : Mid bs0 bs k m) : War m ps (k + 1) bs := by
  have all : ∀ a c, Mx bs a c ↔ Mx bs0 a c ∨ (Mx bs0 a k ∧ Mx bs0 k c) := fun a c => by
    rw [h.2]
    constructor
    · rintro (x | ⟨_, x, y⟩)
      · exact .inl x
      · exact .inr ⟨x, y⟩
    · rintro (x | ⟨x, y⟩)
      · exact .inl x
      · have := Mx_lt x
        rw [w.len] at this
        exact .inr ⟨this, x, y⟩
  refine ⟨h.1.trans w.len, fun a c x => ?_, fun a c x => (all a c).mpr (.inl (w.has a c x)), fun a j c l x y => ?_⟩
  · rcases (all a c).mp x with x | ⟨x, y⟩
    · exact w.snd a c x
    · exact (w.snd _ _ x).trans (w.snd _ _ y)
  · rw [all] at x y ⊢
    by_cases e : j = (k : Int)
    · subst e
      have x : Mx bs0 a k := by rcases x with x | ⟨x, _⟩ <;> exact x
      have y : Mx bs0 k c := by rcases y with y | ⟨_, y⟩ <;> exact y
      exact .inr ⟨x, y⟩
    · have l : j < k := by omega
      rcases x with x | ⟨x, x'⟩
      · rcases y with y | ⟨y, y'⟩
        · exact .inl (w.cls a j c l x y)
        · exact .inr ⟨w.cls a j k l x y, y'⟩
      · rcases y with y | ⟨y, y'⟩
        · exact .inr ⟨x, w.cls k j c l x' y⟩
        · exact .inr ⟨x, y'⟩
theorem War.done {m : Nat} {ps : List Pr} {bs : List Nat} (w : War m ps m bs) (hin : In m ps) (a c : Int) : Mx bs a c ↔ Tc ps a c := by
  refine ⟨w.snd a c, fun t => ?_⟩
  exact t.ind (R := fun a c => Mx bs a c) w.has fun a j c x y => w.cls a j c (by
    have := Mx_lt y
    rw [w.len] at this
    exact this) x y
/-! ### the pairs of all rows -/
def rowP (m : Nat) (bs : List Nat) (a : Nat) : List Pr := (bitsOf m (bs.getD a 0)).map fun c : Nat => ((a : Int), (c : Int))
def allP (m : Nat) (bs : List Nat) (i : Nat) : List Pr := (List.range i).flatMap (rowP m bs)
theorem allP_succ (m : Nat) (bs : List Nat) (i : Nat) : allP m bs (i + 1) = allP m bs i ++ rowP m bs i := by
  unfold allP
  rw [List.range_succ, List.flatMap_append, List.flatMap_singleton]
theorem rowP_length (m : Nat) (bs : List Nat) (a : Nat) : (rowP m bs a).length ≤ m := by
  unfold rowP
  rw [List.length_map]
  exact bitsOf_length _ _
theorem allP_length (m : Nat) (bs : List Nat) : ∀ i, (allP m bs i).length ≤ i * m
  | 0 => Nat.zero_le _
  | i + 1 => by
    rw [allP_succ, List.length_append, Nat.succ_mul]
    have := allP_length m bs i
    have := rowP_length m bs i
    omega
theorem rowP_get {m : Nat} {bs : List Nat} {a j : Nat} {c : Nat} (h : (bitsOf m (bs.getD a 0))[j]? = some c) : (rowP m bs a)[j]? = some ((a : Int), (c : Int)) := by
  unfold rowP
  rw [List.getElem?_map, h]
  rfl
theorem mem_rowP {m : Nat} {bs : List Nat} {i : Nat} {a c : Int} : (a, c) ∈ rowP m bs i ↔ a = i ∧ c < m ∧ Mx bs a c := by
  unfold rowP bitsOf Mx
  rw [List.mem_map]
  constructor
  · rintro ⟨k, h, e⟩
    rw [List.mem_filter, List.mem_range] at h
    cases e
    rw [Int.toNat_natCast, Int.toNat_natCast]
    exact ⟨rfl, by omega, by omega, by omega, h.2⟩
  · rintro ⟨rfl, h, h1, h2, h3⟩
    refine ⟨c.toNat, ?_, ?_⟩
    · rw [List.mem_filter, List.mem_range]
      rw [Int.toNat_natCast] at h3
      exact ⟨by omega, h3⟩
    · rw [Int.toNat_of_nonneg h2]
theorem mem_allP {m : Nat} {bs : List Nat} {i : Nat} {a c : Int} : (a, c) ∈ allP m bs i ↔ a < i ∧ c < m ∧ Mx bs a c := by
  unfold allP
  rw [List.mem_flatMap]
  constructor
  · rintro ⟨k, h, e⟩
    rw [List.mem_range] at h
    obtain ⟨rfl, e⟩ := mem_rowP.mp e
    exact ⟨by omega, e⟩
  · rintro ⟨h, e⟩
    have h0 := e.2.1
    refine ⟨a.toNat, List.mem_range.mpr (by omega), mem_rowP.mpr ⟨(Int.toNat_of_nonneg h0).symm, e⟩⟩
theorem rowP_asc (m : Nat) (hm : m ≤ 64) (bs : List Nat) (i : Nat) : asc (rowP m bs i) := by
  unfold rowP
  refine List.pairwise_map.mpr ?_
  unfold bitsOf
  refine (List.Pairwise.filter _ List.pairwise_lt_range).imp (fun {a b} h => ?_)
  unfold code
  simp only
  omega
theorem allP_asc (m : Nat) (hm : m ≤ 64) (bs : List Nat) : ∀ i, asc (allP m bs i)
  | 0 => .nil
  | i + 1 => by
    rw [allP_succ]
    refine List.pairwise_append.mpr ⟨allP_asc m hm bs i, rowP_asc m hm bs i, fun ⟨a, c⟩ h ⟨b, d⟩ k => ?_⟩
    obtain ⟨h1, h2, h3⟩ := mem_allP.mp h
    obtain ⟨k1, k2, k3⟩ := mem_rowP.mp k
    have := h3.2.1
    have := k3.2.1
    unfold code
    simp only
    omega
theorem War.cl {m : Nat} {ps : List Pr} {bs : List Nat} (w : War m ps m bs) (hm : m ≤ 64) (hin : In m ps) : Cl ps (allP m bs m) :=
  ⟨allP_asc m hm bs m, fun a c => by
    rw [mem_allP, w.done hin]
    constructor
    · exact fun h => h.2.2
    · exact fun h => ⟨(h.in hin).2.1, (h.in hin).2.2.2, h⟩⟩
end Ev

namespace Ev
open PySem L2
open C8 (pss_cut tCut)
theorem tyT {K : PySem.W.Frag} {H : Hp} {a : Addr} {xs : List V} (h : SqT K H a xs) : TyX K H (.ref a) (.type "tuple") := by
  rcases h with (h | ⟨o, h⟩) | ⟨o, its, n, h, c, _⟩
  · exact .base (.tup h)
  · exact .fTuple h
  · exact .kTuple h c
section
variable {P : Program} {w : World} {K : PySem.W.Frag} {mg : Str → Option Value} {base : Heap}
/-! ### is_integer, is_name -/
def sp_isInt (K : PySem.W.Frag) : Sp := fun vs H Q _ => ∃ v t b1 b2, vs = [v] ∧ TyX K H v t ∧ PySem.W.kitOne K t (.type "int") = some b1 ∧ PySem.W.kitOne K t (.type "bool") = some b2 ∧ Q (.bl (b1 && !b2)) H
abbrev s_isInt : Stmt := topS 1
theorem sc_isInt : FnScope ["thing"] ["thing"] (defScope s_isInt) := ⟨rfl, rfl, rfl, by decide +kernel, rfl, by decide +kernel, by decide +kernel⟩
theorem ok_isInt {f : Addr} {fd : FuncData} (F : Fun K "is_integer" "is_integer" s_isInt f fd) (B : Bl mg) : FnOk P w K mg base CX0 1 f fd ["thing"] (sp_isInt K) := by
  refine F.ok sc_isInt (fun vs H Q E h => ?_) (fun cdv A outer s H vs Q E hr h => ?_)
  · obtain ⟨v, t, b1, b2, rfl, _⟩ := h
    rfl
  · obtain ⟨v, t, b1, b2, rfl, ty, k1, k2, q⟩ := h
    refine ⟨_, pss_one (ps_ret (pe_and (pe_callB call_isi (by rfl) B.isinstance (by decide +kernel) (pa_cons (pv 0) (pa_cons (pe_bltn (v := .ty "int") (by rfl) B.int (by decide +kernel) rfl) pa_nil)))
      (pe_one (pe_not (pe_callB call_isi (by rfl) B.isinstance (by decide +kernel) (pa_cons (pv 0) (pa_cons (pe_bltn (v := .ty "bool") (by rfl) B.bool (by decide +kernel) rfl) pa_nil))))))), ?_⟩
    refine ⟨_, rfl, _, _, _, _, _, rfl, .ty _, ty, k1, _, rfl, ?_⟩
    cases b1 with
    | false => exact iteF q
    | true => exact iteT ⟨_, rfl, _, _, _, _, _, rfl, .ty _, ty, k2, _, rfl, q⟩
def sp_isName (K : PySem.W.Frag) : Sp := fun vs H Q _ => ∃ (m i : Int), vs = [.int m, .int i] ∧ Q (.bl (decide (0 ≤ i) && decide (i < m))) H
abbrev s_isName : Stmt := topS 2
theorem sc_isName : FnScope ["many", "thing"] ["many", "thing"] (defScope s_isName) := ⟨rfl, rfl, rfl, by decide +kernel, rfl, by decide +kernel, by decide +kernel⟩
theorem int_kit {K : PySem.W.Frag} : PySem.W.kitOne K (.type "int") (.type "int") = some true ∧ PySem.W.kitOne K (.type "int") (.type "bool") = some false := ⟨kit_ty (by decide +kernel), kit_ty (by decide +kernel)⟩
theorem ok_isName {f f1 : Addr} {fd fd1 : FuncData} (F : Fun K "is_name" "is_name" s_isName f fd) (D1 : Df K mg "is_integer" s_isInt ["thing"] f1 fd1) (B : Bl mg) : FnOk P w K mg base CX0 2 f fd ["many", "thing"] (sp_isName K) := by
  have G1 : FnOk P w K mg base CX0 1 f1 fd1 ["thing"] (sp_isInt K) := ok_isInt D1.F B
  refine F.ok sc_isName (fun vs H Q E h => ?_) (fun cdv A outer s H vs Q E hr h => ?_)
  · obtain ⟨m, i, rfl, _⟩ := h
    rfl
  · obtain ⟨m, i, rfl, q⟩ := h
    refine ⟨_, pss_one (ps_ret (pe_and (pe_call G1 hr rfl D1.g D1.F.kp D1.b .nil pass0 (pa_cons (pv 1) pa_nil)) (pe_one (pe_chain op_le op_lt (pe_int) (pv 1) (pv 0))))), ?_⟩
    refine ⟨_, rfl, _, _, _, _, rfl, .base (.int i), int_kit.1, int_kit.2, _, rfl, iteT ?_⟩
    refine ⟨_, rfl, _, _, rfl, rfl, _, rfl, ?_⟩
    by_cases h0 : (0 : Int) ≤ i
    · rw [decide_eq_true h0] at q ⊢
      refine iteT ⟨_, rfl, _, _, rfl, rfl, ?_⟩
      exact q
    · rw [decide_eq_false h0] at q ⊢
      exact iteF q
/-! ### is_ascending, of pairs -/
def sp_ascP (K : PySem.W.Frag) : Sp := fun vs H Q _ => ∃ (a : Addr) (ks : Kp), vs = [.ref a] ∧ SqT K H a (kv ks) ∧ KsAt K H ks ∧ In 64 (kp ks) ∧ asc (kp ks) ∧ ks.length ≤ 64 ∧ ∀ H', Same H H' → Q (.bl true) H'
abbrev s_isAsc : Stmt := topS 3
abbrev n_isAsc : List Str := ["items", "at"]
theorem sc_isAsc : FnScope n_isAsc ["items"] (defScope s_isAsc) := ⟨rfl, rfl, rfl, by decide +kernel, rfl, by decide +kernel, by decide +kernel⟩
theorem all_true (n : Nat) : (List.replicate n true).all id = true := by
  rw [List.all_eq_true]
  intro x hx
  exact (List.eq_of_mem_replicate hx)
theorem rep_snoc (n : Nat) : (List.replicate (n + 1) true).map V.bl = (List.replicate n true).map V.bl ++ [V.bl true] := by
  rw [List.replicate_succ', List.map_append]
  rfl
theorem ok_ascP {f : Addr} {fd : FuncData} (F : Fun K "is_ascending" "is_ascending" s_isAsc f fd) (B : Bl mg) : FnOk P w K mg base CX0 1 f fd ["items"] (sp_ascP K) := by
  refine F.ok sc_isAsc (fun vs H Q E h => ?_) (fun cdv A outer s H vs Q E hr h => ?_)
  · obtain ⟨a, ks, rfl, _⟩ := h
    rfl
  · obtain ⟨a, ks, rfl, hT, hk, hin, as, hl, q⟩ := h
    refine ⟨_, pss_one (ps_ret (pe_callB (cr_all rfl) (by rfl) B.all (by decide +kernel) (pa_cons (pe_lc (own := [("at", 1)]) (te := tOp (rLtT K) (tOp (rIxT K) (tVar 0) (tVar 1)) (tOp (rIxT K) (tVar 0) (tOp (rI0 fun i j => .int (i + j)) (tVar 1) (tC (.int 1))))) (by rfl) sc_isAsc.nd (pi_range1 (by rfl) B.range (pa_cons (pe_op op_sub (pe_callB call_len_seq (by rfl) B.len (by decide +kernel) (pa_cons (pv 0) pa_nil)) (pe_int)) pa_nil)) (blkOk_by (N := n_isAsc) (sc := defScope s_isAsc) (by decide +kernel)) (fun _ _ _ _ _ => pg_name (i := 1) sc_isAsc.nd rfl (Or.inl rfl)) (fun _ _ _ _ _ => pts_nil)
      (fun _ _ _ _ _ => by exact pe_cmpR (op_ltT hr.units0) (pe_ix ix_tup (pv 0) (pv 1) (fun _ _ => rfl)) (pe_ix ix_tup (pv 0) (pe_op op_add (pv 1) (pe_int)) (fun _ _ => rfl)) (nomark _))) pa_nil))), ?_⟩
    refine ⟨_, rfl, _, _, rfl, .inr hT, _, _, rfl, rfl, _, rfl, ?_, ?_, fun D nD => ?_⟩
    · rw [kv_length]
      omega
    · rw [kv_length]
      omega
    refine lc_range (lo := 0) (n := ((kv ks).length - 1 : Int).toNat) (fun i H' => Same H H' ∧ H' D = some (.lst ((List.replicate i true).map V.bl))) ?_ ?_ ?_
    · exact ⟨same_new nD, upd_same⟩
    · rintro i H1 hi ⟨sm, hD⟩
      rw [kv_length] at hi
      have g1 : ks[i]? = some (ks[i]'(by omega)) := List.getElem?_eq_getElem _
      have g2 : ks[i + 1]? = some (ks[i + 1]'(by omega)) := List.getElem?_eq_getElem _
      generalize hx : ks[i]'(by omega) = x at g1
      generalize hy : ks[i + 1]'(by omega) = y at g2
      have hT1 := sqT_same hT sm
      have hx1 := (hk.same sm) _ (List.mem_of_getElem? g1)
      have hy1 := (hk.same sm) _ (List.mem_of_getElem? g2)
      have bx := hin _ (List.mem_of_getElem? (kp_get g1))
      have by_ := hin _ (List.mem_of_getElem? (kp_get g2))
      refine ⟨rfl, _, rfl, _, rfl, _, _, _, _, rfl, rfl, hT1, by rw [Int.zero_add]; exact atI_nat (kv_get g1), ?_⟩
      refine ⟨_, rfl, _, rfl, _, _, rfl, rfl, _, _, _, _, rfl, rfl, hT1, by rw [show (0 : Int) + i + 1 = ((i + 1 : Nat) : Int) by omega]; exact atI_nat (kv_get g2), ?_⟩
      refine ⟨x.1, y.1, [x.2.1, x.2.2], [y.2.1, y.2.2], rfl, rfl, hx1, hy1, _, hD, ?_, same_upd sm (by
        have := same_new (o := .lst []) nD
        exact nD), ?_⟩
      · rw [List.length_map, List.length_replicate]
        exact small64 (by omega)
      · rw [upd_same, lex_code ⟨bx.2.2.1, bx.2.2.2⟩ ⟨by_.2.2.1, by_.2.2.2⟩, decide_eq_true (asc_next as (kp_get g1) (kp_get g2)), rep_snoc]
    · rintro H1 ⟨sm, hD⟩
      exact ⟨D, _, rfl, SqL.of hD, by rw [all_true]; exact q _ sm⟩
/-! ### lot_of -/
def nv (l : List Nat) : List V := l.map fun k : Nat => V.int (k : Int)
def sp_lotOf (K : PySem.W.Frag) : Sp := fun vs H Q _ => ∃ (m n : Nat), vs = [.int m, .int n] ∧ m ≤ 8 ∧ ∀ H' z, Same H H' → H z = none → H' z = some (.tup (nv (bitsOf m n))) → Q (.ref z) H'
abbrev s_lotOf : Stmt := topS 4
abbrev n_lotOf : List Str := ["many", "bits", "name"]
theorem sc_lotOf : FnScope n_lotOf ["many", "bits"] (defScope s_lotOf) := ⟨rfl, rfl, rfl, by decide +kernel, rfl, by decide +kernel, by decide +kernel⟩
theorem bit_val (n k : Nat) : (((n / 2 ^ k % 2 : Nat) : Int) != 0) = n.testBit k := by
  rw [Nat.testBit_eq_decide_div_mod_eq]
  rcases Nat.mod_two_eq_zero_or_one (n / 2 ^ k) with e | e <;> rw [e] <;> rfl
theorem ok_lotOf {f : Addr} {fd : FuncData} (F : Fun K "lot_of" "lot_of" s_lotOf f fd) (B : Bl mg) : FnOk P w K mg base CX0 1 f fd ["many", "bits"] (sp_lotOf K) := by
  refine F.ok sc_lotOf (fun vs H Q E h => ?_) (fun cdv A outer s H vs Q E hr h => ?_)
  · obtain ⟨m, n, rfl, _⟩ := h
    rfl
  · obtain ⟨m, n, rfl, hm, q⟩ := h
    refine ⟨_, pss_one (ps_ret (pe_callTy call_tuple_of (by rfl) B.tuple (by decide +kernel) (pa_cons (pe_lc (own := [("name", 2)]) (by rfl) sc_lotOf.nd (pi_range1 (by rfl) B.range (pa_cons (pv 0) pa_nil)) (blkOk_by (N := n_lotOf) (sc := defScope s_lotOf) (by decide +kernel)) (fun _ _ _ _ _ => pg_name (i := 2) sc_lotOf.nd rfl (Or.inl rfl))
      (tt := tTru K (tOp rOdd (tOp rShr (tVar 1) (tVar 2)) (tC (.int 1))))
      (fun _ _ _ _ _ => by exact pts_one (pt_tru (pe_op op_oddN (pe_op op_shrNN (pv 1) (pv 2)) (pe_int)))) (fun _ _ _ _ _ => pv 2)) pa_nil))), ?_⟩
    refine ⟨_, rfl, m, rfl, by omega, by omega, fun D nD => ?_⟩
    refine lc_range (lo := 0) (n := (m : Int).toNat) (fun i H' => Same H H' ∧ H' D = some (.lst (nv (bitsOf i n)))) ?_ ?_ ?_
    · exact ⟨same_new nD, upd_same⟩
    · rintro i H1 hi ⟨sm, hD⟩
      refine ⟨rfl, _, rfl, _, rfl, n, i, rfl, by rw [Int.zero_add], n / 2 ^ i, rfl, rfl, _, rfl, ?_⟩
      rw [bit_val]
      cases e : n.testBit i with
      | false => exact iteF ⟨sm, by rw [bitsOf_no e]; exact hD⟩
      | true =>
        refine iteT ⟨_, rfl, _, hD, ?_, same_upd sm nD, ?_⟩
        · show ((bitsOf i n).map _).length < sizeLine
          rw [List.length_map]
          have := bitsOf_length i n
          have : i < m := hi
          exact small64 (by omega)
        · rw [upd_same, bitsOf_yes e, Int.zero_add]
          show _ = some (HO.lst ((bitsOf i n ++ [i]).map _))
          rw [List.map_append]
          rfl
    · rintro H1 ⟨sm, hD⟩
      exact ⟨D, _, rfl, .inl ⟨SqL.of hD, fun z nz => q _ z (same_upd sm (sm.free nz)) (sm.free nz) upd_same⟩⟩
end
end Ev

namespace Ev
open PySem L2
open C8 (pss_cut tCut)
section
variable {P : Program} {w : World} {K : PySem.W.Frag} {mg : Str → Option Value} {base : Heap}
/-! ### _is_before, _are_befores, of right ones -/
def sp_isBef (K : PySem.W.Frag) : Sp := fun vs H Q _ => ∃ (m : Int) (a : Addr) (p : Pr), vs = [.int m, .ref a] ∧ SqT K H a [.int p.1, .int p.2] ∧ (0 ≤ p.1 ∧ p.1 < m ∧ 0 ≤ p.2 ∧ p.2 < m) ∧ p.1 ≠ p.2 ∧ Q (.bl true) H
abbrev s_isBef : Stmt := topS 12
theorem sc_isBef : FnScope ["many", "thing"] ["many", "thing"] (defScope s_isBef) := ⟨rfl, rfl, rfl, by decide +kernel, rfl, by decide +kernel, by decide +kernel⟩
theorem ok_isBef {f f1 f2 : Addr} {fd fd1 fd2 : FuncData} (F : Fun K "_is_before" "_is_before" s_isBef f fd) (D1 : Df K mg "is_integer" s_isInt ["thing"] f1 fd1) (D2 : Df K mg "is_name" s_isName ["many", "thing"] f2 fd2) (B : Bl mg) : FnOk P w K mg base CX0 3 f fd ["many", "thing"] (sp_isBef K) := by
  have G2 : FnOk P w K mg base CX0 2 f2 fd2 ["many", "thing"] (sp_isName K) := ok_isName D2.F D1 B
  refine F.ok sc_isBef (fun vs H Q E h => ?_) (fun cdv A outer s H vs Q E hr h => ?_)
  · obtain ⟨m, a, p, rfl, _⟩ := h
    rfl
  · obtain ⟨m, a, p, rfl, hT, ⟨a0, a1, b0, b1⟩, ne, q⟩ := h
    refine ⟨_, pss_cons (ps_if (PW.pt (pw_or (pt_not (pt_val (pe_callB call_isi (by rfl) B.isinstance (by decide +kernel) (pa_cons (pv 1) (pa_cons (pe_bltn (v := .ty "tuple") (by rfl) B.tuple (by decide +kernel) rfl) pa_nil))))) (pw_or1 (pt_cmpR op_ne (pe_callB call_len_seq (by rfl) B.len (by decide +kernel) (pa_cons (pv 1) pa_nil)) (pe_int) (nomark _)))))
        (pss_one (ps_ret (pe_bl)))
        (pss_nil))
      (pss_one (ps_ret (pe_and (pe_call G2 hr rfl D2.g D2.F.kp D2.b .nil pass0 (pa_cons (pv 0) (pa_cons (pe_ix ix_tup (pv 1) (pe_int) (fun _ _ => rfl)) pa_nil))) (pe_and (pe_call G2 hr rfl D2.g D2.F.kp D2.b .nil pass0 (pa_cons (pv 0) (pa_cons (pe_ix ix_tup (pv 1) (pe_int) (fun _ _ => rfl)) pa_nil))) (pe_one (pe_cmpR op_ne (pe_ix ix_tup (pv 1) (pe_int) (fun _ _ => rfl)) (pe_ix ix_tup (pv 1) (pe_int) (fun _ _ => rfl)) (nomark _))))))), ?_⟩
    refine ⟨_, rfl, _, _, _, _, _, rfl, .ty _, tyT hT, kit_ty (by decide +kernel), true, rfl, iteF ?_⟩
    refine ⟨_, rfl, _, _, rfl, .inr hT, rfl, _, rfl, iteF ?_⟩
    refine ⟨_, rfl, _, rfl, _, _, _, _, rfl, rfl, hT, rfl, _, _, rfl, _, rfl, ?_⟩
    rw [decide_eq_true a0, decide_eq_true a1]
    refine iteT ⟨_, rfl, _, rfl, _, _, _, _, rfl, rfl, hT, rfl, _, _, rfl, _, rfl, ?_⟩
    rw [decide_eq_true b0, decide_eq_true b1]
    refine iteT ⟨_, rfl, _, _, _, _, rfl, rfl, hT, rfl, _, rfl, _, _, _, _, rfl, rfl, hT, rfl, rfl, ?_⟩
    rw [decide_eq_false (fun e => ne (V.int.inj e))]
    exact q
/-- befores as they must be, at b -/
structure Bef (K : PySem.W.Frag) (H : Hp) (m : Int) (b : Addr) (ks : Kp) : Prop where
  tup : SqT K H b (kv ks)
  at_ : KsAt K H ks
  bd : In m (kp ks)
  ne : ∀ p ∈ kp ks, p.1 ≠ p.2
  asc : asc (kp ks)
theorem Bef.few {K : PySem.W.Frag} {H : Hp} {m : Int} {b : Addr} {ks : Kp} (h : Bef K H m b ks) (hm : m ≤ 8) : ks.length < 63 := by
  have := few8 (kp ks) (h.bd.mono hm) h.ne (asc_nodup h.asc)
  rwa [kp_length] at this
def sp_areBef (K : PySem.W.Frag) : Sp := fun vs H Q _ => ∃ (m : Int) (b : Addr) (ks : Kp), vs = [.int m, .ref b] ∧ Bef K H m b ks ∧ m ≤ 8 ∧ ∀ H', Same H H' → Q (.bl true) H'
abbrev s_areBef : Stmt := topS 13
abbrev n_areBef : List Str := ["many", "thing", "item"]
theorem sc_areBef : FnScope n_areBef ["many", "thing"] (defScope s_areBef) := ⟨rfl, rfl, rfl, by decide +kernel, rfl, by decide +kernel, by decide +kernel⟩
theorem ok_areBef {f f1 f2 f3 f4 : Addr} {fd fd1 fd2 fd3 fd4 : FuncData} (F : Fun K "_are_befores" "_are_befores" s_areBef f fd) (D1 : Df K mg "is_integer" s_isInt ["thing"] f1 fd1) (D2 : Df K mg "is_name" s_isName ["many", "thing"] f2 fd2)
    (D3 : Df K mg "is_ascending" s_isAsc ["items"] f3 fd3) (D4 : Df K mg "_is_before" s_isBef ["many", "thing"] f4 fd4) (B : Bl mg) : FnOk P w K mg base CX0 4 f fd ["many", "thing"] (sp_areBef K) := by
  have G3 : FnOk P w K mg base CX0 1 f3 fd3 ["items"] (sp_ascP K) := ok_ascP D3.F B
  have G4 : FnOk P w K mg base CX0 3 f4 fd4 ["many", "thing"] (sp_isBef K) := ok_isBef D4.F D1 D2 B
  refine F.ok sc_areBef (fun vs H Q E h => ?_) (fun cdv A outer s H vs Q E hr h => ?_)
  · obtain ⟨m, b, ks, rfl, _⟩ := h
    rfl
  · obtain ⟨m, b, ks, rfl, hB, hm, q⟩ := h
    have few := hB.few hm
    refine ⟨_, pss_cons (ps_if (pt_not (pt_val (pe_callB call_isi (by rfl) B.isinstance (by decide +kernel) (pa_cons (pv 1) (pa_cons (pe_bltn (v := .ty "tuple") (by rfl) B.tuple (by decide +kernel) rfl) pa_nil)))))
        (pss_one (ps_ret (pe_bl)))
        (pss_nil))
      (pss_one (ps_ret (pe_and (pe_callB (cr_all rfl) (by rfl) B.all (by decide +kernel) (pa_cons (pe_lc (own := [("item", 2)]) (by rfl) sc_areBef.nd (pi_tup (pv 1)) (blkOk_by (N := n_areBef) (sc := defScope s_areBef) (by decide +kernel)) (fun _ _ _ _ _ => pg_name (i := 2) sc_areBef.nd rfl (Or.inl rfl)) (fun _ _ _ _ _ => pts_nil) (fun _ _ _ _ _ => by exact pe_call G4 hr rfl D4.g D4.F.kp D4.b .nil pass0 (pa_cons (pv 0) (pa_cons (pv 2) pa_nil)))) pa_nil))
        (pe_one (pe_call G3 (hr.mono (by decide)) rfl D3.g D3.F.kp D3.b .nil pass0 (pa_cons (pv 1) pa_nil)))))), ?_⟩
    refine ⟨_, rfl, _, _, _, _, _, rfl, .ty _, tyT hB.tup, kit_ty (by decide +kernel), true, rfl, iteF ?_⟩
    refine ⟨_, rfl, b, rfl, ⟨_, hB.tup⟩, fun D nD => ?_⟩
    refine lc_tup (K := K) (a := b) (xs := kv ks) (fun i H' => Same H H' ∧ H' D = some (.lst ((List.replicate i true).map V.bl))) ?_ ?_ ?_ ?_
    · exact ⟨same_new nD, upd_same⟩
    · rintro i H1 _ ⟨sm, _⟩
      exact sqT_same hB.tup sm
    · rintro i x H1 hi ⟨sm, hD⟩
      obtain ⟨⟨pa, p⟩, gk, rfl⟩ := get_kv hi
      have lt : i < ks.length := (List.getElem?_eq_some_iff.mp gk).1
      have mp := List.mem_of_getElem? (kp_get gk)
      refine ⟨rfl, _, rfl, _, rfl, m, pa, p, rfl, (hB.at_.same sm) _ (List.mem_of_getElem? gk), hB.bd _ mp, hB.ne _ mp, _, hD, ?_, same_upd sm nD, ?_⟩
      · rw [List.length_map, List.length_replicate]
        exact small64 (by omega)
      · rw [upd_same, rep_snoc]
    · rintro H1 ⟨sm, hD⟩
      refine ⟨D, _, rfl, SqL.of hD, ?_⟩
      rw [all_true]
      refine ⟨true, rfl, iteT ?_⟩
      exact ⟨_, rfl, b, ks, rfl, sqT_same hB.tup sm, hB.at_.same sm, hB.bd.mono (by omega), hB.asc, by omega, fun H2 sm2 => q H2 (sm.trans sm2)⟩
theorem nv_get {l : List Nat} {i k : Nat} (h : l[i]? = some k) : (nv l)[i]? = some (V.int (k : Int)) := by
  unfold nv
  rw [List.getElem?_map, h]
  rfl
theorem nv_length (l : List Nat) : (nv l).length = l.length := List.length_map _
theorem nv_set (l : List Nat) (i k : Nat) : (nv l).set i (V.int (k : Int)) = nv (l.set i k) := by
  unfold nv
  rw [List.map_set]
theorem nv_rep (m : Nat) : (List.replicate m [V.int 0]).flatten = nv (List.replicate m 0) := by
  induction m with
  | zero => rfl
  | succ m ih =>
    rw [List.replicate_succ, List.flatten_cons, ih]
    rfl
theorem getD_get {l : List Nat} {i : Nat} (h : i < l.length) : l[i]? = some (l.getD i 0) := by
  rw [List.getD_eq_getElem?_getD, List.getElem?_eq_getElem h]
  rfl
theorem ixN_nat {n i : Nat} (h : i < n) : ixN n (i : Int) = some i := by
  unfold ixN
  rw [if_pos (by omega), if_pos (by omega), Int.toNat_natCast]
theorem or_pow (b k : Nat) : Builtin.bitOr (b : Int) ((2 : Int) ^ k) = ((b ||| 2 ^ k : Nat) : Int) := by
  have e : ((2 : Int) ^ k) = ((2 ^ k : Nat) : Int) := by
    push_cast
    rfl
  rw [e, Bits.bitOr_pp (Int.natCast_nonneg _) (Int.natCast_nonneg _), Int.toNat_natCast, Int.toNat_natCast]
theorem or_nat (b c : Nat) : Builtin.bitOr (b : Int) (c : Int) = ((b ||| c : Nat) : Int) := by
  rw [Bits.bitOr_pp (by omega) (by omega), Int.toNat_natCast, Int.toNat_natCast]
/-! ### befores_by -/
def sp_bby (K : PySem.W.Frag) : Sp := fun vs H Q _ => ∃ (bh : Addr) (bs : List Nat), vs = [.ref bh] ∧ H bh = some (.lst (nv bs)) ∧ bs.length ≤ 8 ∧
  ∀ H' z js, Same H H' → H z = none → H' z = some (.tup (kv js)) → KsAt K H' js → kp js = allP bs.length bs bs.length → Q (.ref z) H'
abbrev s_bby : Stmt := topS 5 -- @befores_by
abbrev n_bby : List Str := ["behind", "many", "one", "other"]
theorem sc_bby : FnScope n_bby ["behind"] (defScope s_bby) := ⟨rfl, rfl, rfl, by decide +kernel, rfl, by decide +kernel, by decide +kernel⟩
theorem ok_bby {f f1 : Addr} {fd fd1 : FuncData} (F : Fun K "befores_by" "befores_by" s_bby f fd) (D1 : Df K mg "lot_of" s_lotOf ["many", "bits"] f1 fd1) (B : Bl mg) : FnOk P w K mg base CX0 2 f fd ["behind"] (sp_bby K) := by
  have G1 : FnOk P w K mg base CX0 1 f1 fd1 ["many", "bits"] (sp_lotOf K) := ok_lotOf D1.F B
  refine F.ok sc_bby (fun vs H Q E h => ?_) (fun cdv A outer s H2 vs Q E hr h => ?_)
  · obtain ⟨bh, bs, rfl, _⟩ := h
    rfl
  · obtain ⟨bh, bs, rfl, hb, hm, q⟩ := h
    refine ⟨_, pss_cons (ps_set (i := 1) sc_bby.nd rfl (Or.inr rfl) (pe_callB call_len_seq (by rfl) B.len (by decide +kernel) (pa_cons (pv 0) pa_nil)))
      (pss_one (ps_ret (pe_callTy call_tuple_of (by rfl) B.tuple (by decide +kernel) (pa_cons (pe_lc2 (own := [("one", 2), ("other", 3)]) (vs1 := [3]) (g := (gName 2)) (tt := tYes) (wi1 := (iTup K (tCall (sp_lotOf K) [] E0 (tCons (tVar 1) (tCons (tOp (rIxL K) (tVar 0) (tVar 2)) tNil))))) (g1 := (gName 3)) (tt1 := tYes) (te := (tTup (tCons (tVar 2) (tCons (tVar 3) tNil)))) (by rfl) sc_bby.nd (pi_range1 (by rfl) B.range (pa_cons (pv 1) pa_nil)) (blkOk_by (N := n_bby) (sc := defScope s_bby) (by decide +kernel)) (by decide) (fun _ _ _ _ _ => by exact pg_name (i := 2) sc_bby.nd rfl (Or.inl rfl)) (fun _ _ _ _ _ => by exact pts_nil) (fun _ _ _ _ _ => by exact pi_tup (pe_call G1 (hr.mono (by decide)) rfl D1.g D1.F.kp D1.b .nil pass0 (pa_cons (pv 1) (pa_cons (pe_ix ix_list (pv 0) (pv 2) (fun _ _ => rfl)) pa_nil)))) (fun _ _ _ _ _ => by exact pg_name (i := 3) sc_bby.nd rfl (Or.inl rfl)) (fun _ _ _ _ _ => by exact pts_nil) (fun _ _ _ _ _ => by exact pe_tup (pa_cons (pv 2) (pa_cons (pv 3) pa_nil)))) pa_nil)))), ?_⟩
    refine ⟨_, rfl, bh, _, rfl, .inl (SqL.of hb), ?_⟩
    rw [nv_length]
    generalize hm' : bs.length = m at hm q ⊢
    refine ⟨_, rfl, m, rfl, by omega, by omega, fun D nD => ?_⟩
    have bD : bh ≠ D := ne_of_none hb nD
    refine out_range (lo := 0) (n := (m : Int).toNat) (fun i H' => ∃ acc : Kp, Same H2 H' ∧ H' D = some (.lst (kv acc)) ∧ KsAt K H' acc ∧ kp acc = allP m bs i) ?_ ?_ ?_
    · exact ⟨[], same_new nD, upd_same, .nil, rfl⟩
    · rintro i H3 hi ⟨acc, sm3, hD3, hk3, ea⟩
      have hi' : i < m := hi
      have li : i < bs.length := by rw [hm']; exact hi
      have ei : (0 : Int) + (i : Int) = (i : Int) := Int.zero_add _
      refine ⟨rfl, _, rfl, _, rfl, _, rfl, _, _, _, _, rfl, rfl, SqL.of (sm3 _ _ hb), by rw [ei]; exact atI_nat (nv_get (getD_get li)), m, bs.getD i 0, rfl, hm, fun H4 z sm4 nz hz => ?_⟩
      refine ⟨z, rfl, ⟨_, sqT_of hz⟩, ?_⟩
      refine in_tup (K := K) (a := z) (xs := nv (bitsOf m (bs.getD i 0))) (fun j H' => ∃ acc' : Kp, Same H2 H' ∧ H' z = some (.tup (nv (bitsOf m (bs.getD i 0)))) ∧ H' D = some (.lst (kv acc')) ∧ KsAt K H' acc' ∧ kp acc' = allP m bs i ++ (rowP m bs i).take j) ?_ ?_ ?_ ?_
      · exact ⟨acc, sm3.trans sm4, hz, sm4 _ _ hD3, hk3.same sm4, by rw [ea, List.take_zero, List.append_nil]⟩
      · rintro j H5 ⟨acc', _, hz5, _⟩
        exact sqT_of hz5
      · rintro j x H5 hj ⟨acc', sm5, hz5, hD5, hk5, ea5⟩
        have la : acc'.length ≤ 8 * 8 + 8 := by
          rw [← kp_length acc', ea5, List.length_append, List.length_take]
          have h1 := allP_length m bs i
          have h2 := rowP_length m bs i
          have h3 : i * m ≤ 8 * 8 := Nat.mul_le_mul (by omega) hm
          omega
        obtain ⟨c, gc, rfl⟩ : ∃ c, (bitsOf m (bs.getD i 0))[j]? = some c ∧ x = V.int (c : Int) := by
          unfold nv at hj
          rw [List.getElem?_map] at hj
          cases e : (bitsOf m (bs.getD i 0))[j]? with
          | none => rw [e] at hj; cases hj
          | some c => rw [e] at hj; exact ⟨c, rfl, (Option.some.inj hj).symm⟩
        refine ⟨rfl, _, rfl, _, rfl, (by show 2 ≤ sizeLine; decide), fun p np => ?_⟩
        have Dp : D ≠ p := ne_of_none hD5 np
        have np2 : H2 p = none := sm5.free np
        refine ⟨kv acc', by rw [upd_ne Dp]; exact hD5, by rw [kv_length]; exact small1000 (by omega), acc' ++ [(p, ((i : Int), (c : Int)))], same_upd (same_upd sm5 np2) nD, ?_, ?_, ?_, ?_⟩
        · rw [upd_ne (ne_of hz5 hD5 nofun), upd_ne (ne_of_none hz5 np)]
          exact hz5
        · rw [kv_append]
          exact upd_same
        · have h6 := (hk5.snoc (q := ((i : Int), (c : Int))) np).keep (t := D) (H' := upd (upd H5 p (.tup [.int (i : Int), .int (c : Int)])) D (.lst (kv acc' ++ [V.ref p]))) (Keep.refl D _).upd (by rw [upd_ne Dp]; exact hD5)
          rw [ei]
          exact h6
        · rw [kp_append, ea5, take_snoc (rowP_get gc), List.append_assoc]
          rfl
      · rintro H5 ⟨acc', sm5, hz5, hD5, hk5, ea5⟩
        refine ⟨acc', sm5, hD5, hk5, ?_⟩
        rw [ea5, allP_succ, List.take_of_length_le]
        show (rowP m bs i).length ≤ (nv (bitsOf m (bs.getD i 0))).length
        unfold rowP
        rw [nv_length, List.length_map]
        exact Nat.le_refl _
    · rintro H3 ⟨acc, sm3, hD3, hk3, ea⟩
      exact ⟨D, _, rfl, .inl ⟨SqL.of hD3, fun z nz => q _ z acc (same_upd sm3 (sm3.free nz)) (sm3.free nz) upd_same (hk3.same (same_new nz)) ea⟩⟩
/-! ### _with_following -/
def sp_follow (K : PySem.W.Frag) : Sp := fun vs H Q _ => ∃ (m : Nat) (b : Addr) (ks : Kp), vs = [.int m, .ref b] ∧ Bef K H m b ks ∧ m ≤ 8 ∧
  ∀ H' z js, Same H H' → H z = none → H' z = some (.tup (kv js)) → KsAt K H' js → Cl (kp ks) (kp js) → Q (.ref z) H'
abbrev s_follow : Stmt := topS 14
abbrev n_follow : List Str := ["many", "befores", "behind", "one", "other", "between"]
theorem sc_follow : FnScope n_follow ["many", "befores"] (defScope s_follow) := ⟨rfl, rfl, rfl, by decide +kernel, rfl, by decide +kernel, by decide +kernel⟩
theorem ok_follow {f f1 f2 : Addr} {fd fd1 fd2 : FuncData} (F : Fun K "_with_following" "_with_following" s_follow f fd) (D2 : Df K mg "befores_by" s_bby ["behind"] f2 fd2) (D1 : Df K mg "lot_of" s_lotOf ["many", "bits"] f1 fd1) (B : Bl mg) : FnOk P w K mg base CX0 3 f fd ["many", "befores"] (sp_follow K) := by
  have G2 : FnOk P w K mg base CX0 2 f2 fd2 ["behind"] (sp_bby K) := ok_bby D2.F D1 B
  refine F.ok sc_follow (fun vs H Q E h => ?_) (fun cdv A outer s H vs Q E hr h => ?_)
  · obtain ⟨m, b, ks, rfl, _⟩ := h
    rfl
  · obtain ⟨m, b, ks, rfl, hB, hm, q⟩ := h
    refine ⟨_, pss_cons (ps_set (i := 2) sc_follow.nd rfl (Or.inl rfl) (pe_op op_rep (pe_lst (pa_cons (pe_int) pa_nil)) (pv 0)))
      (pss_cut (ps_for PassesOwn.never rfl (pi_tup (pv 1)) (pg_tup (by rfl) (pgs_cons (pg_name (i := 3) sc_follow.nd rfl (Or.inl rfl)) (pgs_cons (pg_name (i := 4) sc_follow.nd rfl (Or.inl rfl)) pgs_nil)))
        (pss_one (ps_augS (pv 2) (pv 3) pget_list (pe_op op_oneShl pe_int (pv 4)) iop_or set_list)))
      (pss_cut (ps_for PassesOwn.never rfl (pi_range1 (by rfl) B.range (pa_cons (pv 0) pa_nil)) (pg_name (i := 5) sc_follow.nd rfl (Or.inl rfl))
        (pss_one (ps_for PassesOwn.never rfl (pi_range1 (by rfl) B.range (pa_cons (pv 0) pa_nil)) (pg_name (i := 3) sc_follow.nd rfl (Or.inl rfl))
          (pss_one (ps_if (pt_tru (pe_op op_oddN (pe_op op_shrNN (pe_ix ix_list (pv 2) (pv 3) (fun _ _ => rfl)) (pv 5)) (pe_int)))
            (pss_one (ps_augS (pv 2) (pv 3) pget_list (pe_ix ix_list (pv 2) (pv 5) (fun _ _ => rfl)) iop_or set_list))
            (pss_nil))))))
      (pss_one (ps_ret (pe_call G2 (hr.mono (by decide)) rfl D2.g D2.F.kp D2.b .nil pass0 (pa_cons (pv 2) pa_nil)))))), ?_⟩
    -- behind = [0] * many
    refine ⟨(by show 1 ≤ sizeLine; decide), fun p0 np0 => ?_⟩
    refine ⟨_, rfl, p0, m, _, rfl, rfl, upd_same, by omega, by omega, ?_, fun bh nbh => ?_⟩
    · show 1 * (m : Int).toNat ≤ sizeLine
      rw [Int.toNat_natCast]
      exact Nat.le_of_lt (small64 (by omega))
    have e0 : (List.replicate (m : Int).toNat [V.int 0]).flatten = nv (List.replicate m 0) := nv_rep m
    rw [e0]
    have nbh0 : H bh = none := (same_new np0).free nbh
    have sm0 : Same H (upd (upd H p0 (.lst [.int 0])) bh (.lst (nv (List.replicate m 0)))) := same_upd (same_new np0) nbh0
    have w0 : ∀ {p : Pr}, p ∈ kp ks → 0 ≤ p.1 ∧ p.1 < m ∧ 0 ≤ p.2 ∧ p.2 < m := fun h => hB.bd _ h
    -- for one, other in befores: behind[one] |= 1 << other
    refine ⟨fun σ' H' => ∃ (bs : List Nat) (v3 v4 : Option V), σ' = [some (.int m), some (.ref b), some (.ref bh), v3, v4, none] ∧ Same H H' ∧ H' bh = some (.lst (nv bs)) ∧ bs.length = m ∧ ∀ a c, Mx bs a c ↔ (a, c) ∈ kp ks, ?_, ?_⟩
    · refine ⟨_, rfl, b, rfl, ⟨_, sqT_same hB.tup sm0⟩, for_tup (K := K) (a := b) (xs := kv ks) (fun i σ' H' => ∃ (bs : List Nat) (v3 v4 : Option V), σ' = [some (.int m), some (.ref b), some (.ref bh), v3, v4, none] ∧ Same H H' ∧ H' bh = some (.lst (nv bs)) ∧ bs.length = m ∧ ∀ a c, Mx bs a c ↔ (a, c) ∈ (kp ks).take i) ?_ ?_ ?_ ?_⟩
      · refine ⟨List.replicate m 0, none, none, rfl, sm0, upd_same, List.length_replicate, fun a c => ⟨fun h => (Mx_zero m a c h).elim, fun h => by cases h⟩⟩
      · rintro i σ' H1 _ ⟨bs, v3, v4, rfl, sm, _⟩
        exact sqT_same hB.tup sm
      · rintro i x σ' H1 hi ⟨bs, v3, v4, rfl, sm, hb, lb, mx⟩
        obtain ⟨⟨pa, x1, x2⟩, gk, rfl⟩ := get_kv hi
        obtain ⟨a0, a1, c0, c1⟩ := w0 (List.mem_of_getElem? (kp_get gk))
        simp only at a0 a1 c0 c1
        obtain ⟨n1, rfl⟩ := Int.eq_ofNat_of_zero_le a0
        obtain ⟨n2, rfl⟩ := Int.eq_ofNat_of_zero_le c0
        have l1 : n1 < bs.length := by omega
        refine ⟨pa, _, rfl, (hB.at_.same sm) _ (List.mem_of_getElem? gk), rfl, _, _, rfl, _, _, rfl, rfl, ?_⟩
        refine ⟨_, rfl, _, rfl, bh, _, n1, _, rfl, rfl, SqL.of hb, nv_get (getD_get l1), _, rfl, n2, rfl, rfl, by omega, _, _, rfl, rfl, bh, _, n1, n1, rfl, rfl, hb, by rw [nv_length]; exact ixN_nat l1, ?_⟩
        refine ⟨bs.set n1 (bs.getD n1 0 ||| 2 ^ n2), _, _, rfl, same_upd sm nbh0, ?_, by rw [List.length_set]; exact lb, fun a c => ?_⟩
        · dsimp only
          rw [or_pow, nv_set]
          exact upd_same
        · rw [Mx_put l1, mx, take_snoc (kp_get gk), List.mem_append, List.mem_singleton, Prod.mk.injEq]
      · rintro σ' H1 ⟨bs, v3, v4, rfl, sm, hb, lb, mx⟩
        have et : (kp ks).take (kv ks).length = kp ks := List.take_of_length_le (by rw [kp_length, kv_length]; exact Nat.le_refl _)
        rw [et] at mx
        exact ⟨bs, v3, v4, rfl, sm, hb, lb, mx⟩
    · rintro σ' H1 ⟨bs, v3, v4, rfl, sm, hb, lb, mx⟩
      have w1 : War m (kp ks) 0 bs := .zero lb mx
      -- for between in range(many): for one in range(many)
      refine ⟨fun σ' H' => ∃ (bs : List Nat) (v3 v4 v5 : Option V), σ' = [some (.int m), some (.ref b), some (.ref bh), v3, v4, v5] ∧ Same H H' ∧ H' bh = some (.lst (nv bs)) ∧ War m (kp ks) m bs, ?_, ?_⟩
      · refine ⟨_, rfl, m, rfl, by omega, by omega, for_range (lo := 0) (n := m) (fun k σ' H' => ∃ (bs : List Nat) (v3 v4 v5 : Option V), σ' = [some (.int m), some (.ref b), some (.ref bh), v3, v4, v5] ∧ Same H H' ∧ H' bh = some (.lst (nv bs)) ∧ War m (kp ks) k bs) ?_ ?_ ?_⟩
        · exact ⟨bs, v3, v4, none, rfl, sm, hb, w1⟩
        · clear sm hb lb mx w1
          rintro k σ' H2 hk ⟨bs0, v3, v4, v5, rfl, sm, hb, wk⟩
          refine ⟨_, rfl, m, rfl, by omega, by omega, for_range (lo := 0) (n := m) (fun i σ' H' => ∃ (bs : List Nat) (v3 v4 : Option V), σ' = [some (.int m), some (.ref b), some (.ref bh), v3, v4, some (.int (0 + k))] ∧ Same H H' ∧ H' bh = some (.lst (nv bs)) ∧ Mid bs0 bs k i) ?_ ?_ ?_⟩
          · exact ⟨bs0, v3, v4, rfl, sm, hb, .zero bs0 k⟩
          · clear sm hb
            rintro i σ' H3 hi ⟨bs, v3, v4, rfl, sm, hb, md⟩
            have li : i < bs.length := by rw [md.1, wk.len]; exact hi
            have lk : k < bs.length := by rw [md.1, wk.len]; exact hk
            have gi := nv_get (getD_get li)
            have gk := nv_get (getD_get lk)
            have ei : (0 : Int) + (i : Int) = (i : Int) := Int.zero_add _
            have ek : (0 : Int) + (k : Int) = (k : Int) := Int.zero_add _
            refine ⟨_, rfl, _, rfl, _, _, _, _, rfl, rfl, SqL.of hb, by rw [ei]; exact atI_nat gi, _, rfl, bs.getD i 0, k, rfl, by rw [ek], _, rfl, rfl, _, rfl, ?_⟩
            rw [bit_val]
            cases e : (bs.getD i 0).testBit k with
            | false => exact iteF ⟨bs, _, _, rfl, sm, hb, md.no e⟩
            | true =>
              refine iteT ⟨_, rfl, _, rfl, bh, _, i, _, rfl, by rw [ei], SqL.of hb, gi, _, rfl, _, rfl, _, _, _, _, rfl, rfl, SqL.of hb, by rw [ek]; exact atI_nat gk, _, _, rfl, rfl, bh, _, i, i, rfl, by rw [ei], hb, by rw [nv_length]; exact ixN_nat li, ?_⟩
              refine ⟨bs.set i (bs.getD i 0 ||| bs.getD k 0), _, _, rfl, same_upd sm nbh0, ?_, md.yes (by rw [wk.len]; exact hi) e⟩
              dsimp only
              rw [or_nat, nv_set]
              exact upd_same
          · rintro σ' H3 ⟨bs, v3, v4, rfl, sm, hb, md⟩
            exact ⟨bs, v3, v4, _, rfl, sm, hb, wk.next md⟩
        · rintro σ' H2 ⟨bs, v3, v4, v5, rfl, sm, hb, wk⟩
          exact ⟨bs, v3, v4, v5, rfl, sm, hb, wk⟩
      · clear sm hb lb mx w1
        rintro σ' H2 ⟨bs, v3, v4, v5, rfl, sm, hb, wk⟩
        -- befores_by(behind)
        refine ⟨_, rfl, bh, bs, rfl, hb, by rw [wk.len]; exact hm, fun H3 z js sm3 nz hz hk ej => q H3 z js (sm.trans sm3) (sm.free nz) hz hk ?_⟩
        rw [ej, wk.len]
        exact wk.cl (by omega) hB.bd
end
end Ev

namespace Ev
open PySem PySem.Spec PyProof.Rows L2
/-! ### == and != by an own __eq__ -/
section
variable {X : Cx} {n : Nat} {CX : CXT} {C f : Addr} {fd : FuncData} {ps : List Str} {sp : Sp} {E : XK}
/-- a == b, a an instance of the class at C, whose __eq__ keeps sp; b of the type t -/
def rEqO (K : PySem.W.Frag) (C : Addr) (sp : Sp) (E : XK) : R2 := fun x y H Q => ∃ (a dx : Addr) (fs : List (Str × V)) (t : Value), x = .ref a ∧ H a = some (.ins C dx fs) ∧ TyX K H y t ∧ PySem.W.notFirst K C t = true ∧
  sp [x, y] H (fun v H' => ∃ b, v = .bl b ∧ Q (.bl b) H') E
def rNeO (K : PySem.W.Frag) (C : Addr) (sp : Sp) (E : XK) : R2 := fun x y H Q => ∃ (a dx : Addr) (fs : List (Str × V)) (t : Value), x = .ref a ∧ H a = some (.ins C dx fs) ∧ TyX K H y t ∧ PySem.W.notFirst K C t = true ∧
  sp [x, y] H (fun v H' => ∃ b, v = .bl b ∧ Q (.bl (!b)) H') E
theorem own_call {A : Around} {pins : List (Addr × Obj)} {σ : L2.St} {H : Hp} {s : Shared} {a : Addr} {y : V} {u : Value} {R : V → Hp → Prop} (G : FnOk X.prog X.w X.K X.mg X.base CX n f fd ps sp)
    (hb : Binds X.K fd ps []) (hx : Passes CX X E) (hr : Room n A) (fr : A.frames = X.A.frames) (I : Inv X pins σ H s) (ry : RelV y u) (h : sp [.ref a, y] H R E) :
    wpAny (model X.prog X.w) A (call (.ref f) [.ref a, u]) (EP X pins σ R) X.xe s := by
  have e0 : Env0 X.prog X.w X.K X.mg X.base A X.stack s H := by
    have e := I.env0
    exact ⟨by rw [fr]; exact e.frames, e.mod, e.bs, e.bsz, e.funs, e.frf, e.hok, e.bare⟩
  have hl := G.len _ _ _ _ h
  have bd := hb s [.ref a, u] I.kIn (by simpa using hl)
  rw [List.append_nil] at bd
  refine wpAny_call (codeAny_mono (G.run A X.stack s H ⟨[.ref a, u], []⟩ [.ref a, u] [.ref a, y] R E hr e0 bd (.cons rfl (.cons ry .nil)) h) fun r s' q => ?_)
  cases r with
  | error e => exact hx pins σ H s e s' I q
  | ok fl =>
    cases fl with
    | ret w => exact I.after q
    | next => exact q.elim
    | brk => exact q.elim
    | cont => exact q.elim
theorem op_eqO (G : FnOk X.prog X.w X.K X.mg X.base CX n f fd ps sp) (hs : PySem.W.findIn X.K (.ref C) "__eq__" = some (some (.ref f))) (hf : PySem.W.isFn X.K (.ref f) = true) (hb : Binds X.K fd ps []) (hx : Passes CX X E) (hr : Room n X.A) :
    OpR X (compareOp .Eq) (rEqO X.K C sp E) := by
  intro pins s σ H x y v u Q I rx ry h
  obtain ⟨a, dx, fs, t, rfl, ha, ty, nf, h⟩ := h
  cases rx
  obtain ⟨mA, J, _⟩ := ins_get I.hok ha
  obtain ⟨od, J, _⟩ := J.look
  obtain ⟨Pt, Z, hP, _⟩ := kit_of I ry ty
  show wpAny (model X.prog X.w) X.A (richCompare .Eq (.ref a) u) (EP X pins σ Q) X.xe s
  obtain ⟨m, hF⟩ := I.fr
  refine PySem.W.cmp_K (op := .Eq) (tb := t) hr.units0 hF I.ok.mod.kin J (Z.ty _ _ I.kIn hP) nf hs hf (wpAny_mono (own_call G hb hx hr rfl I ry h) (fun r s' q => ?_) fun _ _ e => e)
  obtain ⟨z, H', I', rz, b, rfl, q⟩ := q
  cases rz
  exact ⟨.bl b, H', I', rfl, q⟩
theorem ne_entry {A : Around} {pins : List (Addr × Obj)} {σ : L2.St} {H : Hp} {s : Shared} {a : Addr} {u : Value} {od : Option Obj} {ox : Obj} {R : PySem.Fin → Shared → Prop} (hu : A.units < cLine) (I : Inv X pins σ H s)
    (J : PySem.W.InstAt s.heap a ox C od) (hs : PySem.W.findIn X.K (.ref C) "__eq__" = some (some (.ref f))) (hf : PySem.W.isFn X.K (.ref f) = true)
    (h : wpAny (model X.prog X.w) A (call (.ref f) [.ref a, u]) (fun r s' => ∃ b, r = .bool b ∧ R (.done (.ret (.bool (!b)))) s') X.xe s) :
    wpAny (model X.prog X.w) A (Builtin.«object.__ne__» ⟨[.ref a, u], []⟩) R X.xe s := by
  unfold Builtin.«object.__ne__»
  repeat (first
    | with_reducible refine wpAny_cRoomFor hu ?_
    | (refine wpAny_bind (m := callSpecialIfBound? (.ref a) (Str.ofString "__eq__") [u]) (PySem.W.ifBound_K I.kIn J hs hf (wpAny_mono h (fun r s' q => by
        obtain ⟨b, rfl, q⟩ := q
        repeat (first | exact q | exact wpAny_pure q | exact wpAny_truthy_bool q | (refine wpAny_bind (m := truthy (.bool _)) (wpAny_truthy_bool ?_)) | wp_step)) fun _ _ e => e)))
    | wp_step)
theorem ifBound_ne {M : Model} {A : Around} {E' : Value → Shared → Prop} {s : Shared} {x : Addr} {ox : Obj} {od : Option Obj} {K : PySem.W.Frag} {args : List Value} {R : Option Value → Shared → Prop} (kin : K.In s.heap) (J : PySem.W.InstAt s.heap x ox C od)
    (hs : PySem.W.findIn K (.ref C) "__ne__" = some (some (.builtin "object.__ne__"))) (h : wpAny M A (call (.builtin "object.__ne__") (.ref x :: args)) (fun v => R (some v)) E' s) : wpAny M A (callSpecialIfBound? (.ref x) "__ne__" args) R E' s := by
  simp only [callSpecialIfBound?, bindSpecialIfBound?]
  refine wpAny_holding (wpAny_bind (wpAny_bind (wpAny_bind (J.type.here ((PySem.W.looks_findIn kin hs).here ?_)))))
  refine wpAny_bind (wpAny_askSetting (wpAny_ite ?_))
  have last : wpAny M A (call (.builtin "object.__ne__") ([.ref x] ++ args) >>= fun v => pure (some v)) R E' s := wpAny_bind (wpAny_mono h (fun v s' q => wpAny_pure q) fun _ _ q => q)
  split
  · exact wpAny_bind (wpAny_of_eq (F.cmp_object.ne.bind _) (wpAny_pure (by exact last)))
  · exact wpAny_tryCatch (wpAny_bind (wpAny_of_eq (F.cmp_object.ne.bind _) (wpAny_pure (by exact last))))
theorem op_neO (G : FnOk X.prog X.w X.K X.mg X.base CX n f fd ps sp) (hs : PySem.W.findIn X.K (.ref C) "__eq__" = some (some (.ref f))) (hf : PySem.W.isFn X.K (.ref f) = true) (hn : PySem.W.findIn X.K (.ref C) "__ne__" = some (some (.builtin "object.__ne__")))
    (hm : PySem.W.mroIn X.K C (.type "object") = some true) (hb : Binds X.K fd ps []) (hx : Passes CX X E) (hr : Room (n + 1) X.A) :
    OpR X (compareOp .NotEq) (rNeO X.K C sp E) := by
  intro pins s σ H x y v u Q I rx ry h
  obtain ⟨a, dx, fs, t, rfl, ha, ty, nf, h⟩ := h
  cases rx
  obtain ⟨mA, J, _⟩ := ins_get I.hok ha
  obtain ⟨od, J, _⟩ := J.look
  obtain ⟨Pt, Z, hP, _⟩ := kit_of I ry ty
  show wpAny (model X.prog X.w) X.A (richCompare .NotEq (.ref a) u) (EP X pins σ Q) X.xe s
  have kin := I.kIn
  have one : wpAny (model X.prog X.w) X.A (tryCompare (.ref a) "__ne__" u) (fun r s' => ∃ v, r = some v ∧ EP X pins σ Q v s') X.xe s := by
    unfold tryCompare
    refine wpAny_bind (ifBound_ne kin J hn (wpAny_call (codeAny_call_builtin F.cmp_object.ne.plain F.cmpEntry_ne (PySem.W.check_slot F.cmpKind_ne F.cmpSplit_ne (J.type.andThen (PySem.W.looks_mroIn kin hm)) (F.cmpArgs_ne _ _) ?_))))
    refine ne_entry (A := X.A.in1) hr.in1.units0 I J hs hf (wpAny_mono (own_call G hb hx hr.in1 rfl I ry h) (fun r s' q => ?_) fun _ _ e => e)
    obtain ⟨z, H', I', rz, b, rfl, q⟩ := q
    cases rz
    exact ⟨b, rfl, wpAny_pure ⟨_, rfl, .bl (!b), H', I', rfl, q⟩⟩
  simp only [richCompare, cmpInfo_NotEq, oneThing_ref]
  refine wpAny_holding (wpAny_bind (wpAny_cRoomFor hr.units0 ?_))
  refine wpAny_bind (J.type.here (wpAny_bind ((Z.ty _ _ I.kIn hP).here ?_)))
  split
  · rename_i q
    have e : PySem.W.subIn X.K t (.ref C) = some false := by
      rcases Bool.or_eq_true_iff.mp nf with e | e
      · rw [beq_iff_eq.mp e] at q
        simp at q
      · exact beq_iff_eq.mp e
    refine wpAny_bind ((PySem.W.looks_subIn kin e).here ?_)
    simp only [Bool.false_eq_true, if_false]
    refine wpAny_bind (wpAny_mono one (fun r s' z => ?_) fun _ _ e => e)
    obtain ⟨v, rfl, q⟩ := z
    exact wpAny_pure q
  · refine wpAny_bind (wpAny_pure ?_)
    simp only [Bool.false_eq_true, if_false]
    refine wpAny_bind (wpAny_mono one (fun r s' z => ?_) fun _ _ e => e)
    obtain ⟨v, rfl, q⟩ := z
    exact wpAny_pure q
end
end Ev

namespace Ev
open PySem L2
open C8 (pss_cut tCut InsC)
/-! ### a Web in the heap -/
theorem kmb : ¬ (("many" : Str) = "befores") := by decide +kernel
def webF (m : Int) (z : Addr) : List (Str × V) := putF "befores" (.ref z) (putF "many" (.int m) [])
theorem webF_many (m : Int) (z : Addr) : (webF m z).lookup ("many" : Str) = some (.int m) := by
  unfold webF
  rw [lookup_putF, if_neg kmb, lookup_putF, if_pos rfl]
theorem webF_bef (m : Int) (z : Addr) : (webF m z).lookup ("befores" : Str) = some (.ref z) := by
  unfold webF
  rw [lookup_putF, if_pos rfl]
structure WebAt (K : PySem.W.Frag) (C : Addr) (H : Hp) (x : Addr) (m : Nat) (js : Kp) : Prop where
  ob : ∃ dx z, H x = some (.ins C dx (webF m z)) ∧ SqT K H z (kv js)
  at_ : KsAt K H js
theorem WebAt.same {K : PySem.W.Frag} {C : Addr} {H H' : Hp} {x : Addr} {m : Nat} {js : Kp} (h : WebAt K C H x m js) (k : Same H H') : WebAt K C H' x m js := by
  obtain ⟨dx, z, h1, h2⟩ := h.ob
  exact ⟨⟨dx, z, k _ _ h1, sqT_same h2 k⟩, h.at_.same k⟩
theorem WebAt.keep {K : PySem.W.Frag} {C : Addr} {H H' : Hp} {x t : Addr} {m : Nat} {js : Kp} {ys : List V} (h : WebAt K C H x m js) (k : Keep t H H') (ht : H t = some (.lst ys)) : WebAt K C H' x m js := by
  obtain ⟨dx, z, h1, h2⟩ := h.ob
  exact ⟨⟨dx, z, k _ _ h1 (ne_of h1 ht nofun), sqT_keep h2 k ht⟩, h.at_.keep k ht⟩
theorem sub_ty {K : PySem.W.Frag} {C : Addr} {T : String} {l : List Value} (e : fastBuiltinMro T = some l) (h : l.contains (.ref C) = false) : PySem.W.subIn K (.type T) (.ref C) = some false := by
  show (fastBuiltinMro T).map (·.contains (.ref C)) = some false
  rw [e]
  show some (l.contains (.ref C)) = some false
  rw [h]
theorem kit_no {K : PySem.W.Frag} {C : Addr} {T : String} {l : List Value} (iC : PySem.W.isClsIn K C = true) (tC : PySem.W.typeIn K (.ref C) = some (.type "type")) (e : fastBuiltinMro T = some l) (h : l.contains (.ref C) = false) :
    PySem.W.kitOne K (.type T) (.ref C) = some false := by
  have e1 : ((PySem.W.clsIn K C).isSome && PySem.W.typeIn K (.ref C) == some (.type "type")) = true := by
    have i : (PySem.W.clsIn K C).isSome = true := iC
    rw [i, tC]
    rfl
  show (if (Value.type T == .ref C) = true then some true else if ((PySem.W.clsIn K C).isSome && PySem.W.typeIn K (.ref C) == some (.type "type")) = true then PySem.W.subIn K (.type T) (.ref C) else none) = some false
  rw [if_neg (show ¬ ((Value.type T == .ref C) = true) by simp), if_pos e1]
  exact sub_ty e h
theorem kit_me {K : PySem.W.Frag} {C : Addr} : PySem.W.kitOne K (.ref C) (.ref C) = some true := by
  unfold PySem.W.kitOne
  simp
/-- the class Web, as the top has made it -/
structure WebC (K : PySem.W.Frag) (mg : Str → Option Value) (C fI fE : Addr) : Prop where
  ins : InsC K C
  nM : NoAttr K C "many"
  nB : NoAttr K C "befores"
  mkr : Mk K C fI
  g : mg "Web" = some (.ref C)
  eq : PySem.W.findIn K (.ref C) "__eq__" = some (some (.ref fE))
  efn : PySem.W.isFn K (.ref fE) = true
  ne : PySem.W.findIn K (.ref C) "__ne__" = some (some (.builtin "object.__ne__"))
  most : ∃ t, mg "MOST_NAMES" = some (.int 8 t)
  kN : PySem.W.kitOne K (.type "NoneType") (.ref C) = some false
  kI : PySem.W.kitOne K (.type "int") (.ref C) = some false
  kT : PySem.W.kitOne K (.type "tuple") (.ref C) = some false
  kL : PySem.W.kitOne K (.type "list") (.ref C) = some false
  kS : PySem.W.kitOne K (.type "str") (.ref C) = some false
  kD : PySem.W.kitOne K (.type "dict") (.ref C) = some false
section
variable {P : Program} {w : World} {K : PySem.W.Frag} {mg : Str → Option Value} {base : Heap}
def sp_init (K : PySem.W.Frag) (C : Addr) : Sp := fun vs H Q _ => ∃ (x dx b : Addr) (m : Nat) (ks : Kp), vs = [.ref x, .int m, .ref b] ∧ H x = some (.ins C dx []) ∧ 1 ≤ m ∧ m ≤ 8 ∧ Bef K H m b ks ∧ UpsOk (kp ks) ∧
  ∀ H' js, Keep x H H' → WebAt K C H' x m js → Cl (kp ks) (kp js) → Q .non H'
abbrev s_init : Stmt := inClass (topS 11) 0
abbrev n_init : List Str := ["self", "many", "befores", "following", "one", "other"]
theorem sc_init : FnScope n_init ["self", "many", "befores"] (defScope s_init) := ⟨rfl, rfl, rfl, by decide +kernel, rfl, by decide +kernel, by decide +kernel⟩
theorem any_false (n : Nat) : (List.replicate n false).any id = false := by
  rw [List.any_eq_false]
  intro x hx
  rw [List.eq_of_mem_replicate hx]
  exact Bool.false_ne_true
theorem repF_snoc (n : Nat) : (List.replicate (n + 1) false).map V.bl = (List.replicate n false).map V.bl ++ [V.bl false] := by
  rw [List.replicate_succ', List.map_append]
  rfl
theorem ok_init {f C fE f1 f2 f3 f4 f5 f6 f7 : Addr} {fd fd1 fd2 fd3 fd4 fd5 fd6 fd7 : FuncData} (F : Fun K "__init__" "Web.__init__" s_init f fd) (W : WebC K mg C f fE)
    (D1 : Df K mg "is_integer" s_isInt ["thing"] f1 fd1) (D2 : Df K mg "is_name" s_isName ["many", "thing"] f2 fd2) (D3 : Df K mg "is_ascending" s_isAsc ["items"] f3 fd3) (D4 : Df K mg "_is_before" s_isBef ["many", "thing"] f4 fd4)
    (D5 : Df K mg "_are_befores" s_areBef ["many", "thing"] f5 fd5) (D6 : Df K mg "_with_following" s_follow ["many", "befores"] f6 fd6) {fBB : Addr} {fdBB : FuncData} (DBB : Df K mg "befores_by" s_bby ["behind"] fBB fdBB) (D7 : Df K mg "lot_of" s_lotOf ["many", "bits"] f7 fd7) (B : Bl mg) :
    FnOk P w K mg base CX0 5 f fd ["self", "many", "befores"] (sp_init K C) := by
  have G1 : FnOk P w K mg base CX0 1 f1 fd1 ["thing"] (sp_isInt K) := ok_isInt D1.F B
  have G5 : FnOk P w K mg base CX0 4 f5 fd5 ["many", "thing"] (sp_areBef K) := ok_areBef D5.F D1 D2 D3 D4 B
  have G6 : FnOk P w K mg base CX0 3 f6 fd6 ["many", "befores"] (sp_follow K) := ok_follow D6.F DBB D7 B
  obtain ⟨tk, mgN⟩ := W.most
  refine F.ok sc_init (fun vs H Q E h => ?_) (fun cdv A outer s H vs Q E hr h => ?_)
  · obtain ⟨x, dx, b, m, ks, rfl, _⟩ := h
    rfl
  · obtain ⟨x, dx, b, m, ks, rfl, hx, h1, h8, hB, ok, q⟩ := h
    have few := hB.few (by omega)
    refine ⟨_, pss_cons (ps_if (PW.pt (pw_or (pt_not (pt_val (pe_call G1 (hr.mono (by decide)) rfl D1.g D1.F.kp D1.b .nil pass0 (pa_cons (pv 1) pa_nil)))) (pw_or1 (pt_not (pt_chain op_le op_le (pe_int) (pv 1) (pe_glob (v := .int 8) rfl mgN ⟨_, rfl⟩))))))
        (pss_one ps_never)
        (pss_nil))
      (pss_cons (ps_if (pt_not (pt_val (pe_call G5 hr rfl D5.g D5.F.kp D5.b .nil pass0 (pa_cons (pv 1) (pa_cons (pv 2) pa_nil)))))
        (pss_one ps_never)
        (pss_nil))
      (pss_cons (ps_set (i := 3) sc_init.nd rfl (Or.inl rfl) (pe_call G6 (hr.mono (by decide)) rfl D6.g D6.F.kp D6.b .nil pass0 (pa_cons (pv 1) (pa_cons (pv 2) pa_nil))))
      (pss_cons (ps_if (pt_val (pe_callB (cr_any rfl) (by rfl) B.any (by decide +kernel) (pa_cons (pe_lc (own := [("one", 4), ("other", 5)]) (g := gTup K 2 (gCons (gName 4) (gCons (gName 5) gNil))) (by rfl) sc_init.nd (pi_tup (pv 3)) (blkOk_by (N := n_init) (sc := defScope s_init) (by decide +kernel)) (fun _ _ _ _ _ => by exact pg_tup (by rfl) (pgs_cons (pg_name (i := 4) sc_init.nd rfl (Or.inl rfl)) (pgs_cons (pg_name (i := 5) sc_init.nd rfl (Or.inl rfl)) pgs_nil))) (fun _ _ _ _ _ => pts_nil) (fun _ _ _ _ _ => pe_cmpR op_eq (pv 4) (pv 5) (nomark _))) pa_nil)))
        (pss_one ps_never)
        (pss_nil))
      (pss_cons (ps_fld (pv 0) (pv 1) rfl)
      (pss_one (ps_fld (pv 0) (pv 3) rfl)))))), ?_⟩
    -- not is_integer(many) or not 1 <= many <= MOST_NAMES
    refine ⟨_, rfl, _, _, _, _, rfl, .base (.int m), int_kit.1, int_kit.2, true, rfl, iteF ?_⟩
    refine ⟨_, rfl, _, _, rfl, rfl, true, congrArg V.bl (decide_eq_true (show (1 : Int) ≤ m by omega)), iteT ⟨_, _, rfl, rfl, true, congrArg V.bl (decide_eq_true (show (m : Int) ≤ 8 by omega)), iteF ?_⟩⟩
    -- not _are_befores(many, befores)
    refine ⟨_, rfl, _, rfl, m, b, ks, rfl, hB, by omega, fun H1 sm1 => ⟨true, rfl, iteF ?_⟩⟩
    -- following
    have hB1 : Bef K H1 m b ks := ⟨sqT_same hB.tup sm1, hB.at_.same sm1, hB.bd, hB.ne, hB.asc⟩
    refine ⟨_, rfl, _, rfl, m, b, ks, rfl, hB1, h8, fun H2 z js sm2 nz hz hk2 cl => ?_⟩
    have okj : UpsOk (kp js) := ok.tc fun ⟨a, c⟩ h => (cl.mem a c).mp h
    have fewj := okj.few cl.asc
    rw [kp_length] at fewj
    -- any([one == other ..])
    refine ⟨_, rfl, z, rfl, ⟨_, sqT_of hz⟩, fun D nD => ?_⟩
    refine lc_tup (K := K) (a := z) (xs := kv js) (fun i H' => Same H2 H' ∧ H' D = some (.lst ((List.replicate i false).map V.bl))) ?_ ?_ ?_ ?_
    · exact ⟨same_new nD, upd_same⟩
    · rintro i H3 _ ⟨sm, _⟩
      exact sqT_of (sm _ _ hz)
    · rintro i y H3 hi ⟨sm, hD⟩
      obtain ⟨⟨pa, y1, y2⟩, gk, rfl⟩ := get_kv hi
      have lt : i < js.length := (List.getElem?_eq_some_iff.mp gk).1
      refine ⟨pa, _, rfl, (hk2.same sm) _ (List.mem_of_getElem? gk), rfl, _, _, rfl, _, _, rfl, rfl, rfl, _, rfl, _, rfl, rfl, _, hD, ?_, same_upd sm nD, ?_⟩
      · rw [List.length_map, List.length_replicate]
        exact small64 (by omega)
      · rw [upd_same, decide_eq_false (fun e => okj.ne _ (List.mem_of_getElem? (kp_get gk)) (V.int.inj e)), repF_snoc]
    · rintro H3 ⟨sm3, hD⟩
      refine ⟨D, _, rfl, SqL.of hD, false, by rw [any_false], iteF ?_⟩
      have sm : Same H H3 := sm1.trans (sm2.trans sm3)
      -- self.many = many; self.befores = following
      have hx3 := sm _ _ hx
      refine ⟨_, rfl, _, rfl, x, C, dx, _, rfl, hx3, W.ins.cl, W.nM, (by show 0 < 1000; decide), _, rfl, _, rfl, x, C, dx, _, rfl, upd_same, W.ins.cl, W.nB, (by show 1 < 1000; decide), ?_⟩
      have hz3 : H3 z = some (.tup (kv js)) := sm3 _ _ hz
      have zx : z ≠ x := ne_of hz3 hx3 nofun
      have hk3 : KsAt K H3 js := hk2.same sm3
      rw [upd_upd]
      refine q _ js (Keep.upd (same_keep sm)) ⟨⟨dx, z, upd_same, sqT_of (by rw [upd_ne zx]; exact hz3)⟩, fun j mj => ?_⟩ cl
      rcases hk3 j mj with (h | ⟨o, h⟩) | h
      · exact .inl (.inl (by rw [upd_ne (ne_of h hx3 nofun)]; exact h))
      · exact .inl (.inr ⟨o, by rw [upd_ne (ne_of h hx3 nofun)]; exact h⟩)
      · exact .inr h
end
end Ev

namespace Ev
open PySem L2
/-! ### rows of pairs as data, compared -/
def prD (p : Pr) : PyData := .tuple [.int p.1, .int p.2]
def prsD (ps : List Pr) : PyData := .tuple (ps.map prD)
def prsL (ps : List Pr) : PyData := .list (ps.map prD)
theorem eqv_prD (p q : Pr) : PyData.eqv (prD p) (prD q) = decide (p = q) := by
  obtain ⟨a, b⟩ := p
  obtain ⟨c, d⟩ := q
  unfold prD
  simp only [PyData.eqv, PyData.eqvAll, Bool.and_true]
  by_cases h1 : a = c
  · by_cases h2 : b = d
    · subst h1
      subst h2
      simp
    · simp [h2]
  · simp [h1]
theorem eqvAll_prs : ∀ (ps qs : List Pr), PyData.eqvAll (ps.map prD) (qs.map prD) = decide (ps = qs)
  | [], [] => rfl
  | [], q :: qs => by
    simp only [List.map_cons, List.map_nil, PyData.eqvAll]
    simp
  | p :: ps, [] => by
    simp only [List.map_cons, List.map_nil, PyData.eqvAll]
    simp
  | p :: ps, q :: qs => by
    simp only [List.map_cons, PyData.eqvAll, eqv_prD, eqvAll_prs ps qs]
    by_cases h1 : p = q
    · by_cases h2 : ps = qs
      · simp [h1, h2]
      · simp [h2]
    · simp [h1]
theorem eqv_prs (ps qs : List Pr) : PyData.eqv (prsD ps) (prsD qs) = decide (ps = qs) := by
  unfold prsD
  simp only [PyData.eqv]
  exact eqvAll_prs ps qs
theorem eqv_prsL (ps qs : List Pr) : PyData.eqv (prsL ps) (prsL qs) = decide (ps = qs) := by
  unfold prsL
  simp only [PyData.eqv]
  exact eqvAll_prs ps qs
theorem lay_prs : ∀ ps : List Pr, PyData.canLayAll0 (ps.map prD) = true
  | [] => rfl
  | p :: ps => by
    simp only [List.map_cons, PyData.canLayAll0, lay_prs ps, Bool.and_true]
    rfl
theorem depth_prs : ∀ ps : List Pr, PyData.depthAll (ps.map prD) ≤ 1
  | [] => Nat.zero_le _
  | p :: ps => by
    simp only [List.map_cons, PyData.depthAll]
    have h := depth_prs ps
    have h1 : (prD p).depth = 1 := rfl
    omega
theorem shaped_prs (ps : List Pr) : SeqAt.shaped (prsD ps) = true := by
  have h := depth_prs ps
  have e : (prsD ps).depth = PyData.depthAll (ps.map prD) + 1 := rfl
  have c : (prsD ps).canLay0 = true := lay_prs ps
  unfold SeqAt.shaped
  rw [c, Bool.true_and]
  exact decide_eq_true (by omega)
theorem shaped_prsL (ps : List Pr) : SeqAt.shaped (prsL ps) = true := by
  have h := depth_prs ps
  have e : (prsL ps).depth = PyData.depthAll (ps.map prD) + 1 := rfl
  have c : (prsL ps).canLay0 = true := lay_prs ps
  unfold SeqAt.shaped
  rw [c, Bool.true_and]
  exact decide_eq_true (by omega)
theorem dp_all {K : PySem.W.Frag} {H : Hp} : ∀ {ks : Kp}, KsAt K H ks → DpAll K H (kv ks) ((kp ks).map prD)
  | [], _ => .nil
  | k :: ks, h => .cons (.tup (h k List.mem_cons_self) (.cons (.int _) (.cons (.int _) .nil))) (dp_all fun j m => h j (List.mem_cons_of_mem _ m))
theorem dp_prs {K : PySem.W.Frag} {H : Hp} {z : Addr} {ks : Kp} (h : SqT K H z (kv ks)) (a : KsAt K H ks) : Dp K H (.ref z) (prsD (kp ks)) := .tup h (dp_all a)
theorem dp_prsL {K : PySem.W.Frag} {H : Hp} {z : Addr} {ks : Kp} (h : SqL K H z (kv ks)) (a : KsAt K H ks) : Dp K H (.ref z) (prsL (kp ks)) := .lst h (dp_all a)
end Ev

namespace Ev
open PySem L2
open C8 (pss_cut tCut InsC)
section
variable {P : Program} {w : World} {K : PySem.W.Frag} {mg : Str → Option Value} {base : Heap}
/-! ### Web.__eq__ -/
/-- what is compared with a web: another one, or what is none by its type -/
inductive OthV (K : PySem.W.Frag) (C : Addr) (H : Hp) (m : Nat) (js : Kp) : V → Bool → Prop
  | web {x : Addr} {m2 : Nat} {js2 : Kp} (h : WebAt K C H x m2 js2) : OthV K C H m js (.ref x) (decide (m = m2) && decide (kp js = kp js2))
  | other {y : V} {t : Value} (ty : TyX K H y t) (h : PySem.W.kitOne K t (.ref C) = some false) : OthV K C H m js y false
def sp_eq (K : PySem.W.Frag) (C : Addr) : Sp := fun vs H Q _ => ∃ (x : Addr) (y : V) (m : Nat) (js : Kp) (b : Bool), vs = [.ref x, y] ∧ WebAt K C H x m js ∧ OthV K C H m js y b ∧ Q (.bl b) H
abbrev s_eq : Stmt := inClass (topS 11) 1
theorem sc_eq : FnScope ["self", "other"] ["self", "other"] (defScope s_eq) := ⟨rfl, rfl, rfl, by decide +kernel, rfl, by decide +kernel, by decide +kernel⟩
theorem ok_eq {f C fI : Addr} {fd : FuncData} (F : Fun K "__eq__" "Web.__eq__" s_eq f fd) (W : WebC K mg C fI f) (B : Bl mg) : FnOk P w K mg base CX0 1 f fd ["self", "other"] (sp_eq K C) := by
  refine F.ok sc_eq (fun vs H Q E h => ?_) (fun cdv A outer s H vs Q E hr h => ?_)
  · obtain ⟨x, y, m, js, b, rfl, _⟩ := h
    rfl
  · obtain ⟨x, y, m, js, b, rfl, hw, ho, q⟩ := h
    refine ⟨_, pss_one (ps_ret (pe_and (pe_callB call_isi (by rfl) B.isinstance (by decide +kernel) (pa_cons (pv 1) (pa_cons (pe_glob (v := .ref C) rfl W.g rfl) pa_nil))) (pe_and (pe_cmpR op_eq (pe_fld (pv 0) rfl) (pe_fld (pv 1) rfl) (nomark _)) (pe_one (pe_cmpR (op_eqD hr.units) (pe_fld (pv 0) rfl) (pe_fld (pv 1) rfl) (nomark _)))))), ?_⟩
    cases ho with
    | other ty k => exact ⟨_, rfl, _, _, _, _, _, rfl, .own C, ty, k, false, rfl, iteF q⟩
    | @web x2 m2 js2 h2 =>
      obtain ⟨dx, z, h1, hz⟩ := hw.ob
      obtain ⟨dx2, z2, h3, hz2⟩ := h2.ob
      refine ⟨_, rfl, _, _, _, _, _, rfl, .own C, .base (.ins h3 W.ins.cl W.ins.ha W.ins.hn W.ins.htk W.ins.hm), W.ins.me, true, rfl, iteT ?_⟩
      refine ⟨_, rfl, x, C, dx, _, _, rfl, h1, W.ins.cl, W.nM, webF_many _ _, _, rfl, x2, C, dx2, _, _, rfl, h3, W.ins.cl, W.nM, webF_many _ _, rfl, _, rfl, ?_⟩
      by_cases e : m = m2
      · subst e
        rw [decide_eq_true rfl, Bool.true_and] at q
        rw [decide_eq_true rfl]
        refine iteT ⟨_, rfl, x, C, dx, _, _, rfl, h1, W.ins.cl, W.nB, webF_bef _ _, _, rfl, x2, C, dx2, _, _, rfl, h3, W.ins.cl, W.nB, webF_bef _ _, _, _, dp_prs hz hw.at_, dp_prs hz2 h2.at_, shaped_prs _, shaped_prs _, ?_⟩
        rw [eqv_prs]
        exact q
      · rw [decide_eq_false e, Bool.false_and] at q
        have e2 : ¬ V.int (m : Int) = V.int (m2 : Int) := fun h => e (by
          have := V.int.inj h
          omega)
        rw [decide_eq_false e2]
        exact iteF q
end
end Ev

namespace Ev
open PySem L2
open C8 (pss_cut tCut InsC)
section
variable {P : Program} {w : World} {K : PySem.W.Frag} {mg : Str → Option Value} {base : Heap}
theorem Bef.same {H H' : Hp} {m : Int} {b : Addr} {ks : Kp} (h : Bef K H m b ks) (k : Same H H') : Bef K H' m b ks := ⟨sqT_same h.tup k, h.at_.same k, h.bd, h.ne, h.asc⟩
theorem Bef.keep {H H' : Hp} {m : Int} {b t : Addr} {ks : Kp} {ys : List V} (h : Bef K H m b ks) (k : Keep t H H') (ht : H t = some (.lst ys)) : Bef K H' m b ks := ⟨sqT_keep h.tup k ht, h.at_.keep k ht, h.bd, h.ne, h.asc⟩
theorem make_same {H H' : Hp} {x dx : Addr} {o1 o2 : HO} (nx : H x = none) (ndx : H dx = none) (k : Keep x (upd (upd H dx o1) x o2) H') : Same H H' := fun b o e => by
  have h1 := ne_of_none e nx
  have h2 := ne_of_none e ndx
  exact k b o (by rw [upd_ne h1, upd_ne h2]; exact e) h1
/-- Web(m, b), of right befores -/
theorem rd_make {C : Addr} {H : Hp} {b : Addr} {m : Nat} {ks : Kp} {R : Addr → Hp → Prop} (hB : Bef K H m b ks) (ok : UpsOk (kp ks)) (h1 : 1 ≤ m) (h8 : m ≤ 8)
    (q : ∀ x H' js, Same H H' → H x = none → WebAt K C H' x m js → Cl (kp ks) (kp js) → R x H') :
    ∀ x dx, H x = none → H dx = none → dx ≠ x → sp_init K C (.ref x :: ([.int m, .ref b] ++ [])) (upd (upd H dx (.own x)) x (.ins C dx [])) (fun v H2 => v = .non ∧ R x H2) E0 := by
  intro x dx nx ndx ne
  have sm : Same H (upd (upd H dx (.own x)) x (.ins C dx [])) := same_upd (same_new ndx) nx
  refine ⟨x, dx, b, m, ks, rfl, upd_same, h1, h8, hB.same sm, ok, fun H' js k wa cl => ⟨rfl, q x H' js (make_same nx ndx k) nx wa cl⟩⟩
/-- a pair (number, befores) -/
def EntAt (K : PySem.W.Frag) (H : Hp) (x : V) : Prop := ∃ (e : Addr) (n : Nat) (b : Addr) (ks : Kp), x = .ref e ∧ SqT K H e [.int n, .ref b] ∧ 1 ≤ n ∧ n ≤ 8 ∧ Bef K H n b ks ∧ UpsOk (kp ks)
theorem EntAt.same {H H' : Hp} {x : V} (h : EntAt K H x) (k : Same H H') : EntAt K H' x := by
  obtain ⟨e, n, b, ks, rfl, h1, h2, h3, h4, h5⟩ := h
  exact ⟨e, n, b, ks, rfl, sqT_same h1 k, h2, h3, h4.same k, h5⟩
theorem EntAt.keep {H H' : Hp} {x : V} {t : Addr} {ys : List V} (h : EntAt K H x) (k : Keep t H H') (ht : H t = some (.lst ys)) : EntAt K H' x := by
  obtain ⟨e, n, b, ks, rfl, h1, h2, h3, h4, h5⟩ := h
  exact ⟨e, n, b, ks, rfl, sqT_keep h1 k ht, h2, h3, h4.keep k ht, h5⟩
theorem EntAt.new {H : Hp} {e : Addr} {n : Nat} {b : Addr} {ks : Kp} (ne : H e = none) (h2 : 1 ≤ n) (h3 : n ≤ 8) (h4 : Bef K H n b ks) (h5 : UpsOk (kp ks)) : EntAt K (upd H e (.tup [.int n, .ref b])) (.ref e) :=
  ⟨e, n, b, ks, rfl, sqT_of upd_same, h2, h3, h4.same (same_new ne), h5⟩
/-! ### pairs turned about -/
def swp (p : Pr) : Pr := (p.2, p.1)
theorem swp_inj {p q : Pr} (h : swp p = swp q) : p = q := by
  obtain ⟨a, b⟩ := p
  obtain ⟨c, d⟩ := q
  have e1 : b = d := congrArg Prod.fst h
  have e2 : a = c := congrArg Prod.snd h
  simp [e1, e2]
theorem UpsOk.swap {ps : List Pr} (h : UpsOk ps) : UpsOk (ps.map swp) := by
  obtain ⟨r, u⟩ := h.up
  refine ⟨fun p m => ?_, fun a => 7 - r a, fun a b m => ?_, fun a b m => by omega⟩
  · obtain ⟨q, mq, rfl⟩ := List.mem_map.mp m
    have := h.bd q mq
    exact ⟨this.2.2.1, this.2.2.2, this.1, this.2.1⟩
  · obtain ⟨⟨c, d⟩, mq, e⟩ := List.mem_map.mp m
    have e1 : d = a := congrArg Prod.fst e
    have e2 : c = b := congrArg Prod.snd e
    subst e1
    subst e2
    have h1 := u.up c d mq
    have h2 := u.top c d mq
    show 7 - r d < 7 - r c
    omega
theorem In.swap {n : Int} {ps : List Pr} (h : In n ps) : In n (ps.map swp) := fun p m => by
  obtain ⟨q, mq, rfl⟩ := List.mem_map.mp m
  have := h q mq
  exact ⟨this.2.2.1, this.2.2.2, this.1, this.2.1⟩
theorem nodup_swap {ps : List Pr} (h : ps.Nodup) : (ps.map swp).Nodup := List.pairwise_map.mpr (h.imp fun ne e => ne (swp_inj e))
theorem cut_one (xs : List V) : cutV xs (some 1) none = xs.drop 1 := by
  unfold cutV
  rw [show HT.sIx xs.length 0 (some 1) = min 1 xs.length from HT.sIx_nat xs.length 0 1, HT.sIx_none]
  cases xs with
  | nil => rfl
  | cons x r =>
    rw [List.length_cons, show min 1 (r.length + 1) = 1 by omega]
    show (List.take (r.length + 1 - 1) r) = r
    rw [Nat.add_sub_cancel]
    exact List.take_length
theorem kv_drop (ks : Kp) : (kv ks).drop 1 = kv (ks.drop 1) := by
  unfold kv
  rw [List.map_drop]
theorem Bef.drop {H : Hp} {m : Int} {b z : Addr} {ks : Kp} (h : Bef K H m b ks) (hz : SqT K H z (kv (ks.drop 1))) : Bef K H m z (ks.drop 1) := by
  have sub : ∀ k ∈ ks.drop 1, k ∈ ks := fun k m => List.mem_of_mem_drop m
  have e : kp (ks.drop 1) = (kp ks).drop 1 := by
    unfold kp
    rw [List.map_drop]
  refine ⟨hz, h.at_.sub sub, ?_, ?_, ?_⟩
  · rw [e]
    exact h.bd.sub fun q m => List.mem_of_mem_drop m
  · rw [e]
    exact fun p m => h.ne p (List.mem_of_mem_drop m)
  · rw [e]
    exact List.Pairwise.drop h.asc
def sp_law (K : PySem.W.Frag) : Sp := fun vs H Q _ => ∃ (a : Addr) (ns : List Int), vs = [.ref a] ∧ SqL K H a (ns.map V.int) ∧ ns.length ≤ 63 ∧ ∀ H', Q (.bl true) H'
end
end Ev

namespace Ev
open PySem L2
open C8 (pss_cut tCut InsC)
section
variable {P : Program} {w : World} {K : PySem.W.Frag} {mg : Str → Option Value} {base : Heap}
theorem nf_ty {C : Addr} {T : String} {l : List Value} (e : fastBuiltinMro T = some l) (h : l.contains (.ref C) = false) : PySem.W.notFirst K C (.type T) = true := by
  show ((Value.type T == .ref C) || (PySem.W.subIn K (.type T) (.ref C) == some false)) = true
  rw [sub_ty e h]
  simp
theorem nf_non {C : Addr} : PySem.W.notFirst K C (.type "NoneType") = true := nf_ty (l := [.type "NoneType", .type "object"]) (by decide +kernel) rfl
theorem nf_int {C : Addr} : PySem.W.notFirst K C (.type "int") = true := nf_ty (l := [.type "int", .type "object"]) (by decide +kernel) rfl
theorem nf_tup {C : Addr} : PySem.W.notFirst K C (.type "tuple") = true := nf_ty (l := [.type "tuple", .type "object"]) (by decide +kernel) rfl
theorem nf_lst {C : Addr} : PySem.W.notFirst K C (.type "list") = true := nf_ty (l := [.type "list", .type "object"]) (by decide +kernel) rfl
theorem nf_str {C : Addr} : PySem.W.notFirst K C (.type "str") = true := nf_ty (l := [.type "str", .type "object"]) (by decide +kernel) rfl
theorem nf_dct {C : Addr} : PySem.W.notFirst K C (.type "dict") = true := nf_ty (l := [.type "dict", .type "object"]) (by decide +kernel) rfl
theorem nf_own {C : Addr} : PySem.W.notFirst K C (.ref C) = true := by
  unfold PySem.W.notFirst
  simp
/-- t[1:] -/
theorem slice1 {H : Hp} {a : Addr} {ks : Kp} {Q : VK} (hT : SqT K H a (kv ks)) (key : ∀ z H', Same H H' → SqT K H' z (kv (ks.drop 1)) → Q (.ref z) H') : rSlA K (.ref a) (some 1) none H Q := by
  refine ⟨a, _, rfl, hT, fun hw => ?_, fun _ z nz => ?_⟩
  · refine key a H (Same.refl H) ?_
    have e : HT.sIx (kv ks).length 0 (some 1) = min 1 (kv ks).length := HT.sIx_nat _ 0 1
    rw [e, kv_length] at hw
    have l0 : ks.length = 0 := by omega
    have e0 : ks = [] := List.eq_nil_of_length_eq_zero l0
    subst e0
    exact hT
  · refine key z _ (same_new nz) (sqT_of ?_)
    rw [upd_same, cut_one, kv_drop]
theorem bool_same {a b : Bool} {p : Prop} (h : a = true ↔ p) (k : b = true ↔ p) : a = b := by
  rw [Bool.eq_iff_iff]
  exact h.trans k.symm
abbrev s_law : Stmt := topS 22
abbrev n_law : List Str := ["script", "tape", "many", "pairs", "web", "every", "others", "number", "befores", "due", "thing", "kept", "first", "last"]
theorem sc_law : FnScope n_law ["script"] (defScope s_law) := ⟨rfl, rfl, rfl, by decide +kernel, rfl, by decide +kernel, by decide +kernel⟩
/-- what is no web, by its type -/
def NoWeb (K : PySem.W.Frag) (C : Addr) (H : Hp) (y : V) : Prop := ∃ t, TyX K H y t ∧ PySem.W.kitOne K t (.ref C) = some false ∧ PySem.W.notFirst K C t = true
theorem ok_law {f C fI fE fT fP fQ fC f1 f2 f3 f4 f5 f6 f7 : Addr} {fd fdI fdE fdT fdP fdQ fdC fd1 fd2 fd3 fd4 fd5 fd6 fd7 : FuncData} (F : Fun K "law" "law" s_law f fd) (W : WebC K mg C fI fE)
    (FI : Fun K "__init__" "Web.__init__" s_init fI fdI) (bI : Binds K fdI ["self", "many", "befores"] []) (FE : Fun K "__eq__" "Web.__eq__" s_eq fE fdE) (bE : Binds K fdE ["self", "other"] [])
    (DT : Df K mg "_law_tape" s_law_tape ["script"] fT fdT) (DP : Df K mg "_law_pick" s_law_pick ["tape", "many"] fP fdP) (DQ : Df K mg "_law_pairs" s_law_pairs ["tape", "many"] fQ fdQ) (DC : Df K mg "_law_closed" s_law_closed ["pairs"] fC fdC)
    (D1 : Df K mg "is_integer" s_isInt ["thing"] f1 fd1) (D2 : Df K mg "is_name" s_isName ["many", "thing"] f2 fd2) (D3 : Df K mg "is_ascending" s_isAsc ["items"] f3 fd3) (D4 : Df K mg "_is_before" s_isBef ["many", "thing"] f4 fd4)
    (D5 : Df K mg "_are_befores" s_areBef ["many", "thing"] f5 fd5) (D6 : Df K mg "_with_following" s_follow ["many", "befores"] f6 fd6) {fBB : Addr} {fdBB : FuncData} (DBB : Df K mg "befores_by" s_bby ["behind"] fBB fdBB) (D7 : Df K mg "lot_of" s_lotOf ["many", "bits"] f7 fd7) (B : Bl mg) :
    FnOk P w K mg base CX0 7 f fd ["script"] (sp_law K) := by
  have GT : FnOk P w K mg base CX0 1 fT fdT ["script"] (sp_tape K) := ok_tape DT.F B
  have GP : FnOk P w K mg base CX0 1 fP fdP ["tape", "many"] (sp_pick K) := ok_pick DP.F B
  have GQ : FnOk P w K mg base CX0 2 fQ fdQ ["tape", "many"] (sp_pairs K) := ok_pairs DQ.F DP B
  have GC : FnOk P w K mg base CX0 1 fC fdC ["pairs"] (sp_closed K) := ok_closed DC.F B
  have GI : FnOk P w K mg base CX0 5 fI fdI ["self", "many", "befores"] (sp_init K C) := ok_init FI W D1 D2 D3 D4 D5 D6 DBB D7 B
  have GE : FnOk P w K mg base CX0 1 fE fdE ["self", "other"] (sp_eq K C) := ok_eq FE W B
  refine F.ok sc_law (fun vs H Q E h => ?_) (fun cdv A outer s H vs Q E hr h => ?_)
  · obtain ⟨a, ns, rfl, _⟩ := h
    rfl
  · obtain ⟨a, ns, rfl, hS, hlen, q⟩ := h
    have hr1 : Room 1 _ := hr.mono (by decide)
    have hr2 : Room 2 _ := hr.mono (by decide)
    refine ⟨_, pss_cons (ps_set (i := 1) sc_law.nd rfl (Or.inl rfl) (pe_call GT hr1 rfl DT.g DT.F.kp DT.b .nil pass0 (pa_cons (pv 0) pa_nil)))
      (pss_cons (ps_set (i := 2) sc_law.nd rfl (Or.inl rfl) (pe_op op_addN (pe_int) (pe_call GP hr1 rfl DP.g DP.F.kp DP.b .nil pass0 (pa_cons (pv 1) (pa_cons (pe_int) pa_nil)))))
      (pss_cons (ps_set (i := 3) sc_law.nd rfl (Or.inl rfl) (pe_call GQ hr2 rfl DQ.g DQ.F.kp DQ.b .nil pass0 (pa_cons (pv 1) (pa_cons (pv 2) pa_nil))))
      (pss_cons (ps_set (i := 4) sc_law.nd rfl (Or.inl rfl) (pe_make W.mkr GI hr rfl W.g bI .nil pass0 (pa_cons (pv 2) (pa_cons (pv 3) pa_nil))))
      (pss_cons (ps_set (i := 5) sc_law.nd rfl (Or.inl rfl) (pe_call GC hr1 rfl DC.g DC.F.kp DC.b .nil pass0 (pa_cons (pv 3) pa_nil)))
      (pss_cons (ps_set (i := 6) sc_law.nd rfl (Or.inl rfl) (pe_lst (pa_cons (pe_tup (pa_cons (pv 2) (pa_cons (pv 5) pa_nil))) (pa_cons (pe_tup (pa_cons (pe_op op_addN (pv 2) (pe_int)) (pa_cons (pv 3) pa_nil))) (pa_cons (pe_tup (pa_cons (pv 2) (pa_cons (pe_tup pa_nil) pa_nil))) (pa_cons (pe_tup (pa_cons (pv 2) (pa_cons (pe_slice sl_tupA (pv 3) (po_some (pe_int)) po_none) pa_nil))) pa_nil))))))
      (pss_cons (ps_expr (pe_bm PySem.F.plainAttrs_list PySem.F.slot_list_append PySem.F.type_list_append mt_append (pv 6) (pa_cons (pe_tup (pa_cons (pv 2) (pa_cons (pe_callTy call_tuple_of (by rfl) B.tuple (by decide +kernel) (pa_cons (pe_callB (cr_sortT (d := 2) (B := 64) (by decide)) (by rfl) B.sorted (by decide +kernel) (pa_cons (pe_lc (own := [("first", 12), ("last", 13)]) (g := gTup K 2 (gCons (gName 12) (gCons (gName 13) gNil))) (by rfl) sc_law.nd (pi_tup (pv 3)) (blkOk_by (N := n_law) (sc := defScope s_law) (by decide +kernel)) (fun _ _ _ _ _ => by exact pg_tup (by rfl) (pgs_cons (pg_name (i := 12) sc_law.nd rfl (Or.inl rfl)) (pgs_cons (pg_name (i := 13) sc_law.nd rfl (Or.inl rfl)) pgs_nil))) (fun _ _ _ _ _ => pts_nil) (fun _ _ _ _ _ => by exact pe_tup (pa_cons (pv 13) (pa_cons (pv 12) pa_nil)))) pa_nil)) pa_nil)) pa_nil))) pa_nil)))
      (pss_cons (ps_expr (pe_bm PySem.F.plainAttrs_list PySem.F.slot_list_append PySem.F.type_list_append mt_append (pv 6) (pa_cons (pe_tup (pa_cons (pv 2) (pa_cons (pe_call GQ hr2 rfl DQ.g DQ.F.kp DQ.b .nil pass0 (pa_cons (pv 1) (pa_cons (pv 2) pa_nil))) pa_nil))) pa_nil)))
      (pss_cut (ps_for PassesOwn.never rfl (pi_list (pv 6)) (pg_tup (by rfl) (pgs_cons (pg_name (i := 7) sc_law.nd rfl (Or.inl rfl)) (pgs_cons (pg_name (i := 8) sc_law.nd rfl (Or.inl rfl)) pgs_nil)))
        (pss_cut (ps_set (i := 9) sc_law.nd rfl (Or.inl rfl) (pe_and (pe_cmpR op_eq (pv 7) (pv 2) (nomark _)) (pe_one (pe_cmpR (op_eqD hr.units) (pe_call GC hr1 rfl DC.g DC.F.kp DC.b .nil pass0 (pa_cons (pv 8) pa_nil)) (pv 5) (nomark _)))))
        (pss_one (ps_if (PW.pt (pw_or (pt_cmpR op_ne (pe_cmpR (op_eqO GE W.eq W.efn bE pass0 hr1) (pv 4) (pe_make W.mkr GI hr rfl W.g bI .nil pass0 (pa_cons (pv 7) (pa_cons (pv 8) pa_nil))) (nomark _)) (pv 9) (nomark _)) (pw_or1 (pt_cmpR op_eq (pe_cmpR (op_neO GE W.eq W.efn W.ne W.ins.hm bE pass0 hr2) (pv 4) (pe_make W.mkr GI hr rfl W.g bI .nil pass0 (pa_cons (pv 7) (pa_cons (pv 8) pa_nil))) (nomark _)) (pv 9) (nomark _)))))
          (pss_one (ps_ret (pe_bl)))
          (pss_nil)))))
      (pss_cut (ps_for PassesOwn.never rfl (pi_list (pe_lst (pa_cons (pe_non) (pa_cons (pe_int) (pa_cons (pv 3) (pa_cons (pv 5) (pa_cons (pe_tup (pa_cons (pv 2) (pa_cons (pv 5) pa_nil))) (pa_cons (pe_lst (pa_cons (pv 4) pa_nil)) (pa_cons (pe_str) (pa_cons pe_dnewK pa_nil)))))))))) (pg_name (i := 10) sc_law.nd rfl (Or.inl rfl))
        (pss_one (ps_if (PW.pt (pw_or (pt_cmpR (op_eqO GE W.eq W.efn bE pass0 hr1) (pv 4) (pv 10) (nomark _)) (pw_or1 (pt_not (pt_cmpR (op_neO GE W.eq W.efn W.ne W.ins.hm bE pass0 hr2) (pv 4) (pv 10) (nomark _))))))
          (pss_one (ps_ret (pe_bl)))
          (pss_nil))))
      (pss_cons (ps_set (i := 11) sc_law.nd rfl (Or.inl rfl) (pe_callTy call_list_of (by rfl) B.list (by decide +kernel) (pa_cons (pe_fld (pv 4) rfl) pa_nil)))
      (pss_cons (ps_expr (pe_bm PySem.F.plainAttrs_list PySem.F.slot_list_append PySem.F.type_list_append mt_append (pv 11) (pa_cons (pe_tup (pa_cons (pe_int) (pa_cons (pe_int) pa_nil))) pa_nil)))
      (pss_one (ps_ret (pe_and (pe_cmpR op_eq (pe_fld (pv 4) rfl) (pv 2) (nomark _)) (pe_and (pe_cmpR (op_eqD hr.units) (pe_fld (pv 4) rfl) (pv 5) (nomark _)) (pe_one (pe_not (pe_callB call_isi (by rfl) B.isinstance (by decide +kernel) (pa_cons (pe_fld (pv 4) rfl) (pa_cons (pe_bltn (v := .ty "bool") (by rfl) B.bool (by decide +kernel) rfl) pa_nil)))))))))))))))))))), ?_⟩
    -- tape, many, pairs
    refine ⟨_, rfl, a, ns, rfl, hS, fun t l H1 nl nt ntl T1 keep1 => ?_⟩
    refine ⟨_, rfl, t, l, ns, 6, rfl, T1, by decide, by decide, fun v o v1 ho => ⟨1, v, rfl, rfl, ?_⟩⟩
    have m1 : 1 ≤ 1 + v := by omega
    have m6 : 1 + v ≤ 6 := by omega
    generalize 1 + v = m at m1 m6 ⊢
    refine ⟨_, rfl, _, rfl, t, l, ns, m, rfl, T1.put ho, m1, by omega, fun p ks H3 k3 T3 np hp hk dr => ?_⟩
    have ok : UpsOk (kp ks) := dr.ok (by omega)
    have hB : Bef K H3 m p ks := ⟨sqT_of hp, hk, dr.bd, ok.ne, dr.asc⟩
    -- web, every
    refine ⟨_, rfl, _, rfl, ?_⟩
    refine rd_make (C := C) hB ok m1 (by omega) fun x H4 js sm4 nx wa cl => ?_
    refine ⟨_, rfl, p, ks, rfl, .inr (sqT_same hB.tup sm4), hB.at_.same sm4, ok, fun ev es H5 sm5 nev hev hke cle => ?_⟩
    have ees : kp es = kp js := cle.uniq cl
    have T5 : TapeAt H5 t l ns := (T3.keepNew sm4).keepNew sm5
    have wa5 : WebAt K C H5 x m js := wa.same sm5
    have hB5 : Bef K H5 m p ks := (hB.same sm4).same sm5
    have okes : UpsOk (kp es) := ok.tc fun ⟨c, d⟩ h => (cle.mem c d).mp h
    have hBe : Bef K H5 m ev es := ⟨sqT_of hev, hke, cle.in dr.bd, okes.ne, cle.asc⟩
    -- others = [..]
    refine ⟨_, rfl, _, rfl, (by show 2 ≤ sizeLine; decide), fun e1 ne1 => ?_⟩
    have E1 := EntAt.new (K := K) ne1 m1 (by omega) hBe okes
    have sa1 := same_new (o := .tup [.int m, .ref ev]) ne1
    generalize hA1 : upd H5 e1 (.tup [.int m, .ref ev]) = A1 at E1 sa1
    refine ⟨_, rfl, m, 1, rfl, rfl, _, rfl, (by show 2 ≤ sizeLine; decide), fun e2 ne2 => ?_⟩
    have E2 := EntAt.new (K := K) (n := m + 1) (b := p) (ks := ks) ne2 (by omega) (by omega) ⟨sqT_same hB5.tup sa1, hB5.at_.same sa1, hB5.bd.mono (by omega), hB5.ne, hB5.asc⟩ ok
    have sa2 := same_new (o := .tup [.int ((m + 1 : Nat) : Int), .ref p]) ne2
    generalize hA2 : upd A1 e2 (.tup [.int ((m + 1 : Nat) : Int), .ref p]) = A2 at E2 sa2
    refine ⟨_, rfl, Nat.zero_le _, fun z0 nz0 => ?_⟩
    have sa3 := same_new (o := .tup []) nz0
    have hz0 : (upd A2 z0 (.tup [])) z0 = some (.tup (kv [])) := upd_same
    generalize hA3 : upd A2 z0 (.tup []) = A3 at sa3 hz0
    refine ⟨(by show 2 ≤ sizeLine; decide), fun e3 ne3 => ?_⟩
    have E3 := EntAt.new (K := K) (n := m) (b := z0) (ks := []) ne3 m1 (by omega) ⟨sqT_of hz0, .nil, nofun, nofun, .nil⟩ ⟨nofun, fun _ => 0, nofun, nofun⟩
    have sa4 := same_new (o := .tup [.int m, .ref z0]) ne3
    generalize hA4 : upd A3 e3 (.tup [.int m, .ref z0]) = A4 at E3 sa4
    have s4 : Same H5 A4 := sa1.trans (sa2.trans (sa3.trans sa4))
    refine ⟨_, rfl, _, rfl, 1, rfl, ?_⟩
    dsimp only [tNoPart]
    refine slice1 (K := K) (sqT_same hB5.tup s4) fun b4 A5 sa5 hb4 => ?_
    refine ⟨(by show 2 ≤ sizeLine; decide), fun e4 ne4 => ?_⟩
    have hB4 : Bef K A5 m b4 (ks.drop 1) := ((hB5.same s4).same sa5).drop hb4
    have E4 := EntAt.new (K := K) (n := m) ne4 m1 (by omega) hB4 (ok.sub fun q h => by
      have e : kp (ks.drop 1) = (kp ks).drop 1 := by
        unfold kp
        rw [List.map_drop]
      rw [e] at h
      exact List.mem_of_mem_drop h)
    have sa6 := same_new (o := .tup [.int m, .ref b4]) ne4
    generalize hA6 : upd A5 e4 (.tup [.int m, .ref b4]) = A6 at E4 sa6
    refine ⟨(by show 4 ≤ sizeLine; decide), fun o6 no6 => ?_⟩
    -- the heap behind the list
    have s6 : Same H5 A6 := s4.trans (sa5.trans sa6)
    have no6' : H5 o6 = none := s6.free no6
    have xA1 := ((sa2.trans (sa3.trans sa4)).trans sa5).trans sa6
    have F1 : EntAt K A6 (.ref e1) := E1.same xA1
    have F2 : EntAt K A6 (.ref e2) := E2.same (((sa3.trans sa4).trans sa5).trans sa6)
    have F3 : EntAt K A6 (.ref e3) := E3.same (sa5.trans sa6)
    have so6 := same_new (o := .lst [.ref e1, .ref e2, .ref e3, .ref e4]) no6
    have ho6 : (upd A6 o6 (.lst [.ref e1, .ref e2, .ref e3, .ref e4])) o6 = some (.lst [.ref e1, .ref e2, .ref e3, .ref e4]) := upd_same
    have F4 := E4.same so6
    replace F1 := F1.same so6
    replace F2 := F2.same so6
    replace F3 := F3.same so6
    have s7 := s6.trans so6
    generalize hA7 : upd A6 o6 (.lst [.ref e1, .ref e2, .ref e3, .ref e4]) = A7 at so6 ho6 F1 F2 F3 F4 s7
    clear hA1 hA2 hA3 hA4 hA6 E1 E2 E3 E4 xA1
    have hpA : SqT K A7 p (kv ks) := sqT_same hB5.tup s7
    have hkA : KsAt K A7 ks := hB5.at_.same s7
    have lk : ks.length < 63 := hB.few (by omega)
    -- others.append((many, tuple(sorted([(last, first) for first, last in pairs]))))
    refine ⟨_, rfl, .inl ⟨rfl, _, SqL.of ho6⟩, _, rfl, _, rfl, p, rfl, ⟨_, hpA⟩, fun D nD => ?_⟩
    refine lc_tup (K := K) (a := p) (xs := kv ks) (fun i H' => ∃ acc : Kp, Same A7 H' ∧ H' D = some (.lst (kv acc)) ∧ KsAt K H' acc ∧ kp acc = ((kp ks).take i).map swp) ?_ ?_ ?_ ?_
    · exact ⟨[], same_new nD, upd_same, .nil, rfl⟩
    · rintro i H' _ ⟨acc, sm, _⟩
      exact sqT_same hpA sm
    · rintro i y H' hi ⟨acc, sm, hD, hka, ea⟩
      obtain ⟨⟨pa, y1, y2⟩, gk, rfl⟩ := get_kv hi
      have lt : i < ks.length := (List.getElem?_eq_some_iff.mp gk).1
      have la : acc.length ≤ 63 := by
        rw [← kp_length acc, ea, List.length_map, List.length_take, kp_length]
        omega
      refine ⟨pa, _, rfl, (hkA.same sm) _ (List.mem_of_getElem? gk), rfl, _, _, rfl, _, _, rfl, rfl, rfl, _, rfl, _, rfl, (by show 2 ≤ sizeLine; decide), fun g ng => ?_⟩
      have Dg : D ≠ g := ne_of_none hD ng
      have ng7 : A7 g = none := sm.free ng
      refine ⟨kv acc, by rw [upd_ne Dg]; exact hD, by rw [kv_length]; exact small64 (by omega), acc ++ [(g, (y2, y1))], same_upd (same_upd sm ng7) nD, ?_, ?_, ?_⟩
      · rw [kv_append]
        exact upd_same
      · exact (hka.snoc (q := (y2, y1)) ng).keep (t := D) (Keep.refl D _).upd (by rw [upd_ne Dg]; exact hD)
      · rw [kp_append, ea, take_snoc (kp_get gk), List.map_append]
        rfl
    rintro A8 ⟨acc, sm8, hD, hka, ea⟩
    have et : (kp ks).take (kv ks).length = kp ks := List.take_of_length_le (by rw [kp_length, kv_length]; exact Nat.le_refl _)
    rw [et] at ea
    have la : acc.length < 63 := by
      rw [← kp_length acc, ea, List.length_map, kp_length]
      exact lk
    have oks : UpsOk (kp acc) := ea ▸ ok.swap
    have ins : In m (kp acc) := ea ▸ hB.bd.swap
    dsimp only [tNil]
    refine rd_sort (K := K) ⟨D, acc, rfl, SqL.of hD, hka, by omega, oks.bd.mono (by decide), ea ▸ nodup_swap (asc_nodup hB.asc), fun zs zl pm zasc nzl => ?_⟩
    have mem : ∀ q ∈ kp zs, q ∈ kp acc := fun q m => (pm.map _).mem_iff.mp m
    refine ⟨zl, _, rfl, .inl ⟨SqL.of upd_same, fun zt nzt => ⟨(by show 2 ≤ sizeLine; decide), fun e5 ne5 => ?_⟩⟩⟩
    have sb1 := same_new (o := .lst (kv zs)) nzl
    have sb2 := same_new (o := .tup (kv zs)) nzt
    have hBz : Bef K (upd (upd A8 zl (.lst (kv zs))) zt (.tup (kv zs))) m zt zs := ⟨sqT_of upd_same, ((hka.sub fun j mj => pm.mem_iff.mp mj).same sb1).same sb2, ins.sub mem, fun q mq => oks.ne q (mem q mq), zasc⟩
    have E5 := EntAt.new (K := K) ne5 m1 (by omega) hBz (oks.sub mem)
    have sb3 := same_new (o := .tup [.int m, .ref zt]) ne5
    have sB : Same A7 (upd (upd (upd A8 zl (.lst (kv zs))) zt (.tup (kv zs))) e5 (.tup [.int m, .ref zt])) := sm8.trans (sb1.trans (sb2.trans sb3))
    generalize hA9 : upd (upd (upd A8 zl (.lst (kv zs))) zt (.tup (kv zs))) e5 (.tup [.int m, .ref zt]) = A9 at E5 sB
    have ho9 := sB _ _ ho6
    refine ⟨o6, _, _, rfl, rfl, ho9, (by show 4 < sizeLine; decide), ?_⟩
    have kO : Keep o6 A9 (upd A9 o6 (.lst ([.ref e1, .ref e2, .ref e3, .ref e4] ++ [.ref e5]))) := (Keep.refl o6 A9).upd
    have s10 : Same H5 (upd A9 o6 (.lst ([.ref e1, .ref e2, .ref e3, .ref e4] ++ [.ref e5]))) := same_upd (s7.trans sB) no6'
    have G1 := (F1.same sB).keep kO ho9
    have G2 := (F2.same sB).keep kO ho9
    have G3 := (F3.same sB).keep kO ho9
    have G4 := (F4.same sB).keep kO ho9
    have G5 := E5.keep kO ho9
    have ho10 : (upd A9 o6 (.lst ([.ref e1, .ref e2, .ref e3, .ref e4] ++ [.ref e5]))) o6 = some (.lst ([.ref e1, .ref e2, .ref e3, .ref e4] ++ [.ref e5])) := upd_same
    generalize hA10 : upd A9 o6 (.lst ([.ref e1, .ref e2, .ref e3, .ref e4] ++ [.ref e5])) = A10 at s10 G1 G2 G3 G4 G5 ho10
    clear hA9 hA7 hA10 F1 F2 F3 F4 E5 kO ho9 hBz sb1 sb2 sb3 sB
    -- others.append((many, _law_pairs(tape, many)))
    have T10 : TapeAt A10 t l ns := T5.keepNew s10
    obtain ⟨yt, ht10⟩ := T10.lst
    refine ⟨_, rfl, .inl ⟨rfl, _, SqL.of ho10⟩, _, rfl, _, rfl, _, rfl, t, l, ns, m, rfl, T10, m1, by omega, fun p2 ks2 A11 k11 T11 np2 hp2 hk2 dr2 => ⟨(by show 2 ≤ sizeLine; decide), fun e6 ne6 => ?_⟩⟩
    have ok2 : UpsOk (kp ks2) := dr2.ok (by omega)
    have E6 := EntAt.new (K := K) ne6 m1 (by omega) ⟨sqT_of hp2, hk2, dr2.bd, ok2.ne, dr2.asc⟩ ok2
    have sc1 := same_new (o := .tup [.int m, .ref p2]) ne6
    have o6t : o6 ≠ t := by
      intro e
      obtain ⟨yt5, ht5⟩ := T5.lst
      rw [e, ht5] at no6'
      cases no6'
    have ho11 : A11 o6 = some (.lst ([.ref e1, .ref e2, .ref e3, .ref e4] ++ [.ref e5])) := k11 _ _ ho10 o6t
    have J1 := (G1.keep k11 ht10).same sc1
    have J2 := (G2.keep k11 ht10).same sc1
    have J3 := (G3.keep k11 ht10).same sc1
    have J4 := (G4.keep k11 ht10).same sc1
    have J5 := (G5.keep k11 ht10).same sc1
    have W11 : WebAt K C (upd A11 e6 (.tup [.int m, .ref p2])) x m js := ((wa5.same s10).keep k11 ht10).same sc1
    have B11 : Bef K (upd A11 e6 (.tup [.int m, .ref p2])) m ev es := ((hBe.same s10).keep k11 ht10).same sc1
    have P11 : SqT K (upd A11 e6 (.tup [.int m, .ref p2])) p (kv ks) := sqT_same (sqT_keep (sqT_same hB5.tup s10) k11 ht10) sc1
    have ho12 := sc1 _ _ ho11
    generalize hA12 : upd A11 e6 (.tup [.int m, .ref p2]) = A12 at E6 sc1 J1 J2 J3 J4 J5 W11 B11 P11 ho12
    refine ⟨o6, _, _, rfl, rfl, ho12, (by show 5 < sizeLine; decide), ?_⟩
    have kO : Keep o6 A12 (upd A12 o6 (.lst (([.ref e1, .ref e2, .ref e3, .ref e4] ++ [.ref e5]) ++ [.ref e6]))) := (Keep.refl o6 A12).upd
    have W13 := W11.keep kO ho12
    have B13 := B11.keep kO ho12
    have P13 := sqT_keep P11 kO ho12
    have all : ∀ y ∈ ([.ref e1, .ref e2, .ref e3, .ref e4] ++ [.ref e5]) ++ [V.ref e6], EntAt K (upd A12 o6 (.lst (([.ref e1, .ref e2, .ref e3, .ref e4] ++ [.ref e5]) ++ [.ref e6]))) y := by
      intro y hy
      simp only [List.cons_append, List.nil_append, List.mem_cons, List.not_mem_nil, or_false] at hy
      rcases hy with rfl | rfl | rfl | rfl | rfl | rfl
      · exact J1.keep kO ho12
      · exact J2.keep kO ho12
      · exact J3.keep kO ho12
      · exact J4.keep kO ho12
      · exact J5.keep kO ho12
      · exact E6.keep kO ho12
    have ho13 : (upd A12 o6 (.lst (([.ref e1, .ref e2, .ref e3, .ref e4] ++ [.ref e5]) ++ [.ref e6]))) o6 = some (.lst (([.ref e1, .ref e2, .ref e3, .ref e4] ++ [.ref e5]) ++ [.ref e6])) := upd_same
    generalize hA13 : upd A12 o6 (.lst (([.ref e1, .ref e2, .ref e3, .ref e4] ++ [.ref e5]) ++ [.ref e6])) = A13 at W13 B13 P13 all ho13
    generalize hxs : (([.ref e1, .ref e2, .ref e3, .ref e4] ++ [.ref e5]) ++ [V.ref e6]) = xs6 at all ho13
    clear hxs hA13 hA12 J1 J2 J3 J4 J5 E6 G1 G2 G3 G4 G5
    -- for number, befores in others
    refine ⟨fun σ' H' => ∃ v7 v8 v9, σ' = [some (.ref a), some (.ref t), some (.int m), some (.ref p), some (.ref x), some (.ref ev), some (.ref o6), v7, v8, v9, none, none, none, none] ∧ Same A13 H', ?_, ?_⟩
    · refine ⟨_, rfl, o6, rfl, ⟨_, SqL.of ho13⟩, for_list (K := K) (a := o6) (xs := xs6) (fun i σ' H' => ∃ v7 v8 v9, σ' = [some (.ref a), some (.ref t), some (.int m), some (.ref p), some (.ref x), some (.ref ev), some (.ref o6), v7, v8, v9, none, none, none, none] ∧ Same A13 H') ?_ ?_ ?_ ?_⟩
      · exact ⟨none, none, none, rfl, Same.refl _⟩
      · rintro i σ' H' _ ⟨v7, v8, v9, rfl, sm⟩
        exact SqL.of (sm _ _ ho13)
      · rintro i y σ' H' hi ⟨v7, v8, v9, rfl, sm⟩
        obtain ⟨e, n, b, kb, rfl, he, n1, n8, hBb, okb⟩ := (all y (List.mem_of_getElem? hi)).same sm
        have wv := W13.same sm
        have bv := B13.same sm
        refine ⟨e, _, rfl, he, rfl, _, _, rfl, _, _, rfl, rfl, ?_⟩
        -- due
        refine ⟨fun σ' H2 => ∃ d : Bool, σ' = [some (.ref a), some (.ref t), some (.int m), some (.ref p), some (.ref x), some (.ref ev), some (.ref o6), some (.int n), some (.ref b), some (.bl d), none, none, none, none] ∧ Same H' H2 ∧ (d = true ↔ (m = n ∧ Cl (kp kb) (kp js))), ?_, ?_⟩
        · refine ⟨_, rfl, _, rfl, rfl, _, rfl, ?_⟩
          refine ite2 (fun c => ?_) (fun c => ?_)
          · have en : m = n := by
              have := V.int.inj (of_decide_eq_true c)
              omega
            refine ⟨_, rfl, b, kb, rfl, .inr hBb.tup, hBb.at_, okb, fun cb cs H2 sm2 ncb hcb hkc clb => ?_⟩
            refine ⟨_, rfl, _, _, dp_prs (sqT_of hcb) hkc, dp_prs (sqT_same bv.tup sm2) (bv.at_.same sm2), shaped_prs _, shaped_prs _, ?_⟩
            rw [eqv_prs]
            refine ⟨_, rfl, sm2, ?_⟩
            rw [decide_eq_true_eq, ees]
            constructor
            · intro h
              exact ⟨en, h ▸ clb⟩
            · exact fun h => clb.uniq h.2
          · refine ⟨false, rfl, Same.refl _, ?_⟩
            constructor
            · exact fun h => absurd h Bool.false_ne_true
            · exact fun h => absurd (decide_eq_true (by rw [h.1])) c
        · rintro σ' H2 ⟨d, rfl, sm2, hd⟩
          have hB2 := hBb.same sm2
          -- (web == Web(number, befores)) != due
          refine ⟨_, rfl, _, rfl, _, rfl, ?_⟩
          refine rd_make (C := C) hB2 okb n1 n8 fun x2 H3' js2 sm3 nx2 wa2 cl2 => ?_
          have w3 := (wv.same sm2).same sm3
          obtain ⟨dx3, z3, hx3, _⟩ := w3.ob
          obtain ⟨dx4, z4, hx4, _⟩ := wa2.ob
          have same1 : (decide (m = n) && decide (kp js = kp js2)) = d := by
            refine bool_same (p := m = n ∧ Cl (kp kb) (kp js)) ?_ hd
            rw [Bool.and_eq_true, decide_eq_true_eq, decide_eq_true_eq]
            constructor
            · exact fun ⟨h1, h2⟩ => ⟨h1, h2 ▸ cl2⟩
            · exact fun ⟨h1, h2⟩ => ⟨h1, h2.uniq cl2⟩
          refine ⟨x, dx3, _, _, rfl, hx3, .base (.ins hx4 W.ins.cl W.ins.ha W.ins.hn W.ins.htk W.ins.hm), nf_own, x, .ref x2, m, js, _, rfl, w3, .web wa2, _, rfl, ?_⟩
          rw [same1]
          refine ⟨_, rfl, rfl, false, by rw [decide_eq_true rfl]; rfl, iteF ?_⟩
          -- (web != Web(number, befores)) == due
          refine ⟨_, rfl, _, rfl, _, rfl, ?_⟩
          refine rd_make (C := C) (hB2.same sm3) okb n1 n8 fun x5 H5' js5 sm5 nx5 wa5 cl5 => ?_
          have w5 := w3.same sm5
          obtain ⟨dx5, z5, hx5, _⟩ := w5.ob
          obtain ⟨dx6, z6, hx6, _⟩ := wa5.ob
          have same2 : (decide (m = n) && decide (kp js = kp js5)) = d := by rw [← same1, cl5.uniq cl2]
          refine ⟨x, dx5, _, _, rfl, hx5, .base (.ins hx6 W.ins.cl W.ins.ha W.ins.hn W.ins.htk W.ins.hm), nf_own, x, .ref x5, m, js, _, rfl, w5, .web wa5, _, rfl, ?_⟩
          rw [same2]
          refine ⟨_, rfl, rfl, false, ?_, iteF ?_⟩
          · cases d <;> rfl
          · exact ⟨_, _, _, rfl, sm.trans (sm2.trans (sm3.trans sm5))⟩
      · rintro σ' H' ⟨v7, v8, v9, rfl, sm⟩
        exact ⟨v7, v8, v9, rfl, sm⟩
    · rintro σ' A14 ⟨v7, v8, v9, rfl, sm14⟩
      have W14 := W13.same sm14
      have B14 := B13.same sm14
      have P14 := sqT_same P13 sm14
      -- for thing in [None, 0, pairs, every, (many, every), [web], 'Web', {}]
      refine ⟨fun σ' H' => ∃ v10, σ' = [some (.ref a), some (.ref t), some (.int m), some (.ref p), some (.ref x), some (.ref ev), some (.ref o6), v7, v8, v9, v10, none, none, none] ∧ Same A14 H', ?_, ?_⟩
      · refine ⟨_, rfl, _, rfl, _, rfl, _, rfl, (by show 2 ≤ sizeLine; decide), fun g1 ng1 => ?_⟩
        have sd1 := same_new (o := .tup [.int m, .ref ev]) ng1
        have hg1 : (upd A14 g1 (.tup [.int m, .ref ev])) g1 = some (.tup [.int m, .ref ev]) := upd_same
        generalize hD1 : upd A14 g1 (.tup [.int m, .ref ev]) = D1' at sd1 hg1
        refine ⟨_, rfl, (by show 1 ≤ sizeLine; decide), fun g2 ng2 => ?_⟩
        have sd2 := same_new (o := .lst [.ref x]) ng2
        have hg2 : (upd D1' g2 (.lst [.ref x])) g2 = some (.lst [.ref x]) := upd_same
        generalize hD2 : upd D1' g2 (.lst [.ref x]) = D2' at sd2 hg2
        intro g3 ng3
        have sd3 := same_new (o := .dK []) ng3
        have hg3 : (upd D2' g3 (.dK [])) g3 = some (.dK []) := upd_same
        generalize hD3 : upd D2' g3 (.dK []) = D3' at sd3 hg3
        refine ⟨(by show 8 ≤ sizeLine; decide), fun g4 ng4 => ?_⟩
        have sd4 := same_new (o := .lst [.non, .int 0, .ref p, .ref ev, .ref g1, .ref g2, .str "Web", .ref g3]) ng4
        have hg4 : (upd D3' g4 (.lst [.non, .int 0, .ref p, .ref ev, .ref g1, .ref g2, .str "Web", .ref g3])) g4 = some (.lst [.non, .int 0, .ref p, .ref ev, .ref g1, .ref g2, .str "Web", .ref g3]) := upd_same
        have s15 := sd1.trans (sd2.trans (sd3.trans sd4))
        have f1 := sd4 _ _ (sd3 _ _ (sd2 _ _ hg1))
        have f2 := sd4 _ _ (sd3 _ _ hg2)
        have f3 := sd4 _ _ hg3
        generalize hD4 : upd D3' g4 (.lst [.non, .int 0, .ref p, .ref ev, .ref g1, .ref g2, .str "Web", .ref g3]) = D4' at s15 hg4 f1 f2 f3
        have W15 := W14.same s15
        have all8 : ∀ y ∈ [V.non, .int 0, .ref p, .ref ev, .ref g1, .ref g2, .str "Web", .ref g3], NoWeb K C D4' y := by
          intro y hy
          simp only [List.mem_cons, List.not_mem_nil, or_false] at hy
          rcases hy with rfl | rfl | rfl | rfl | rfl | rfl | rfl | rfl
          · exact ⟨_, .base .non, W.kN, nf_non⟩
          · exact ⟨_, .base (.int 0), W.kI, nf_int⟩
          · exact ⟨_, tyT (sqT_same P14 s15), W.kT, nf_tup⟩
          · exact ⟨_, tyT (sqT_same B14.tup s15), W.kT, nf_tup⟩
          · exact ⟨_, .base (.tup f1), W.kT, nf_tup⟩
          · exact ⟨_, .base (.lst f2), W.kL, nf_lst⟩
          · exact ⟨_, .base (.str _), W.kS, nf_str⟩
          · exact ⟨_, .base (.dK f3), W.kD, nf_dct⟩
        obtain ⟨dx, z, hx, hz⟩ := W15.ob
        refine ⟨g4, rfl, ⟨_, SqL.of hg4⟩, for_list (K := K) (a := g4) (xs := [.non, .int 0, .ref p, .ref ev, .ref g1, .ref g2, .str "Web", .ref g3]) (fun i σ' H' => H' = D4' ∧ ∃ v10, σ' = [some (.ref a), some (.ref t), some (.int m), some (.ref p), some (.ref x), some (.ref ev), some (.ref o6), v7, v8, v9, v10, none, none, none]) ?_ ?_ ?_ ?_⟩
        · exact ⟨rfl, none, rfl⟩
        · rintro i σ' H' _ ⟨rfl, _⟩
          exact SqL.of hg4
        · rintro i y σ' H' hi ⟨rfl, v10, rfl⟩
          obtain ⟨ty, tyx, kit, nf⟩ := all8 y (List.mem_of_getElem? hi)
          refine ⟨_, rfl, _, rfl, x, dx, _, ty, rfl, hx, tyx, nf, x, y, m, js, false, rfl, W15, .other tyx kit, _, rfl, false, rfl, iteF ?_⟩
          refine ⟨_, rfl, _, rfl, x, dx, _, ty, rfl, hx, tyx, nf, x, y, m, js, false, rfl, W15, .other tyx kit, _, rfl, true, rfl, iteF ?_⟩
          exact ⟨rfl, _, rfl⟩
        · rintro σ' H' ⟨rfl, v10, rfl⟩
          exact ⟨v10, rfl, s15⟩
      · rintro σ' A15 ⟨v10, rfl, s15⟩
        -- kept = list(web.befores); kept.append((0, 0))
        have W15 := W14.same s15
        have B15 := B14.same s15
        obtain ⟨dx, z, hx, hz⟩ := W15.ob
        have lj : js.length ≤ 62 := by
          have := (ok.tc (qs := kp js) fun ⟨c, d⟩ h => (cl.mem c d).mp h).few cl.asc
          rw [kp_length] at this
          omega
        refine ⟨_, rfl, x, C, dx, _, _, rfl, hx, W.ins.cl, W.nB, webF_bef _ _, z, _, rfl, .inr hz, fun kk nkk => ?_⟩
        refine ⟨_, rfl, .inl ⟨rfl, _, SqL.of upd_same⟩, (by show 2 ≤ sizeLine; decide), fun g ng => ?_⟩
        have sk := same_new (o := .lst (kv js)) nkk
        have sg := same_new (o := .tup [.int 0, .int 0]) ng
        have kkg : kk ≠ g := ne_of_none upd_same ng
        have hkk : (upd (upd A15 kk (.lst (kv js))) g (.tup [.int 0, .int 0])) kk = some (.lst (kv js)) := by
          rw [upd_ne kkg]
          exact upd_same
        refine ⟨kk, _, _, rfl, rfl, hkk, by rw [kv_length]; exact small64 (by omega), ?_⟩
        have s16 : Same A15 (upd (upd (upd A15 kk (.lst (kv js))) g (.tup [.int 0, .int 0])) kk (.lst (kv js ++ [.ref g]))) := same_upd (sk.trans sg) nkk
        have W16 := W15.same s16
        have B16 := B15.same s16
        obtain ⟨dy, z6, hx6, hz6⟩ := W16.ob
        -- return ..
        refine ⟨_, rfl, x, C, dy, _, _, rfl, hx6, W.ins.cl, W.nM, webF_many _ _, _, rfl, rfl, _, rfl, ?_⟩
        rw [decide_eq_true rfl]
        refine iteT ⟨_, rfl, x, C, dy, _, _, rfl, hx6, W.ins.cl, W.nB, webF_bef _ _, _, rfl, _, _, dp_prs hz6 W16.at_, dp_prs B16.tup B16.at_, shaped_prs _, shaped_prs _, ?_⟩
        rw [eqv_prs, ees, decide_eq_true rfl]
        refine ⟨true, rfl, iteT ?_⟩
        refine ⟨_, rfl, x, C, dy, _, _, rfl, hx6, W.ins.cl, W.nM, webF_many _ _, _, _, _, _, _, rfl, .ty _, .base (.int m), int_kit.2, false, rfl, ?_⟩
        exact q _
end
end Ev

namespace Ev
open PySem L2
open C8 (InsC)
theorem all_mk {l : PySem.W.OpenLaw} {w : World} {K : PySem.W.Frag} {h : Heap} {mg : Str → Option Value} {fa : Addr} (X : K.In h) (G : h.Ns mainGlobals mg) (hfa : mg "law" = some (.ref fa))
    {f0 : Addr} {od0 an0 : Option Addr} {sl0 : Array (Option Value)} {oc0 kV0 dc0 pm0 cd0 ct0 : Value}
    {f1 : Addr} {od1 an1 : Option Addr} {sl1 : Array (Option Value)} {oc1 kV1 dc1 pm1 cd1 ct1 : Value}
    {f2 : Addr} {od2 an2 : Option Addr} {sl2 : Array (Option Value)} {oc2 kV2 dc2 pm2 cd2 ct2 : Value}
    {f3 : Addr} {od3 an3 : Option Addr} {sl3 : Array (Option Value)} {oc3 kV3 dc3 pm3 cd3 ct3 : Value}
    {f4 : Addr} {od4 an4 : Option Addr} {sl4 : Array (Option Value)} {oc4 kV4 dc4 pm4 cd4 ct4 : Value}
    {f5 : Addr} {od5 an5 : Option Addr} {sl5 : Array (Option Value)} {oc5 kV5 dc5 pm5 cd5 ct5 : Value}
    {f6 : Addr} {od6 an6 : Option Addr} {sl6 : Array (Option Value)} {oc6 kV6 dc6 pm6 cd6 ct6 : Value}
    {f7 : Addr} {od7 an7 : Option Addr} {sl7 : Array (Option Value)} {oc7 kV7 dc7 pm7 cd7 ct7 : Value}
    {f8 : Addr} {od8 an8 : Option Addr} {sl8 : Array (Option Value)} {oc8 kV8 dc8 pm8 cd8 ct8 : Value}
    {f9 : Addr} {od9 an9 : Option Addr} {sl9 : Array (Option Value)} {oc9 kV9 dc9 pm9 cd9 ct9 : Value}
    {f10 : Addr} {od10 an10 : Option Addr} {sl10 : Array (Option Value)} {oc10 kV10 dc10 pm10 cd10 ct10 : Value}
    {f11 : Addr} {od11 an11 : Option Addr} {sl11 : Array (Option Value)} {oc11 kV11 dc11 pm11 cd11 ct11 : Value}
    {f12 : Addr} {od12 an12 : Option Addr} {sl12 : Array (Option Value)} {oc12 kV12 dc12 pm12 cd12 ct12 : Value}
    {f13 : Addr} {od13 an13 : Option Addr} {sl13 : Array (Option Value)} {oc13 kV13 dc13 pm13 cd13 ct13 : Value}
    {f14 : Addr} {od14 an14 : Option Addr} {sl14 : Array (Option Value)} {oc14 kV14 dc14 pm14 cd14 ct14 : Value}
    {C : Addr} {tN : Tok}
    (aC : PySem.W.nsIn K mainGlobals "Web" = some (some (.ref C)))
    (aN : PySem.W.nsIn K mainGlobals "MOST_NAMES" = some (some (.int 8 tN)))
    (pg : PySem.W.plainGet K C Str.empty = true)
    (hd : PySem.W.hasDictIn K C = true)
    (po : PySem.W.plainOver K C = true)
    (sa : PySem.W.findIn K (.ref C) "__setattr__" = some (some (.builtin "object.__setattr__")))
    (wm : PySem.W.makesIn K C = true)
    (wk : PySem.W.keepIn K (.ref C) = true)
    (iha : PySem.W.findIn K (.ref C) "__class__" = some (some (.builtin "object.__class__")))
    (ihn : PySem.W.specialIn K (.builtin "object.__class__") "__get__" = some (some (.builtin "getset_descriptor.__get__")))
    (iht : PySem.W.takesIn K (.builtin "object.__class__") = some true)
    (ihm : PySem.W.mroIn K C (.type "object") = some true)
    (iC : PySem.W.isClsIn K C = true)
    (tC : PySem.W.typeIn K (.ref C) = some (.type "type"))
    (nM : PySem.W.findIn K (.ref C) "many" = some none)
    (nB : PySem.W.findIn K (.ref C) "befores" = some none)
    (wne : PySem.W.findIn K (.ref C) "__ne__" = some (some (.builtin "object.__ne__")))
    (a0 : PySem.W.nsIn K mainGlobals "law" = some (some (.ref f0)))
    (l0 : K.lookup f0 = some ⟨oc0, od0, .func (PySem.W.fnOf "law" "law" (defArgs s_law) (defBody s_law) (defScope s_law) .none kV0 dc0 pm0 an0 cd0 ct0), sl0⟩) (c0 : PySem.W.codeIn K cd0 "law" = true) (k0 : PySem.W.keepIn K (.ref f0) = true)
    (a1 : PySem.W.findIn K (.ref C) "__init__" = some (some (.ref f1))) (i1 : PySem.W.isFn K (.ref f1) = true)
    (l1 : K.lookup f1 = some ⟨oc1, od1, .func (PySem.W.fnOf "__init__" "Web.__init__" (defArgs s_init) (defBody s_init) (defScope s_init) .none kV1 dc1 pm1 an1 cd1 ct1), sl1⟩) (c1 : PySem.W.codeIn K cd1 "Web.__init__" = true) (k1 : PySem.W.keepIn K (.ref f1) = true)
    (a2 : PySem.W.findIn K (.ref C) "__eq__" = some (some (.ref f2))) (i2 : PySem.W.isFn K (.ref f2) = true)
    (l2 : K.lookup f2 = some ⟨oc2, od2, .func (PySem.W.fnOf "__eq__" "Web.__eq__" (defArgs s_eq) (defBody s_eq) (defScope s_eq) .none kV2 dc2 pm2 an2 cd2 ct2), sl2⟩) (c2 : PySem.W.codeIn K cd2 "Web.__eq__" = true) (k2 : PySem.W.keepIn K (.ref f2) = true)
    (a3 : PySem.W.nsIn K mainGlobals "_law_tape" = some (some (.ref f3)))
    (l3 : K.lookup f3 = some ⟨oc3, od3, .func (PySem.W.fnOf "_law_tape" "_law_tape" (defArgs s_law_tape) (defBody s_law_tape) (defScope s_law_tape) .none kV3 dc3 pm3 an3 cd3 ct3), sl3⟩) (c3 : PySem.W.codeIn K cd3 "_law_tape" = true) (k3 : PySem.W.keepIn K (.ref f3) = true)
    (a4 : PySem.W.nsIn K mainGlobals "_law_pick" = some (some (.ref f4)))
    (l4 : K.lookup f4 = some ⟨oc4, od4, .func (PySem.W.fnOf "_law_pick" "_law_pick" (defArgs s_law_pick) (defBody s_law_pick) (defScope s_law_pick) .none kV4 dc4 pm4 an4 cd4 ct4), sl4⟩) (c4 : PySem.W.codeIn K cd4 "_law_pick" = true) (k4 : PySem.W.keepIn K (.ref f4) = true)
    (a5 : PySem.W.nsIn K mainGlobals "_law_pairs" = some (some (.ref f5)))
    (l5 : K.lookup f5 = some ⟨oc5, od5, .func (PySem.W.fnOf "_law_pairs" "_law_pairs" (defArgs s_law_pairs) (defBody s_law_pairs) (defScope s_law_pairs) .none kV5 dc5 pm5 an5 cd5 ct5), sl5⟩) (c5 : PySem.W.codeIn K cd5 "_law_pairs" = true) (k5 : PySem.W.keepIn K (.ref f5) = true)
    (a6 : PySem.W.nsIn K mainGlobals "_law_closed" = some (some (.ref f6)))
    (l6 : K.lookup f6 = some ⟨oc6, od6, .func (PySem.W.fnOf "_law_closed" "_law_closed" (defArgs s_law_closed) (defBody s_law_closed) (defScope s_law_closed) .none kV6 dc6 pm6 an6 cd6 ct6), sl6⟩) (c6 : PySem.W.codeIn K cd6 "_law_closed" = true) (k6 : PySem.W.keepIn K (.ref f6) = true)
    (a7 : PySem.W.nsIn K mainGlobals "is_integer" = some (some (.ref f7)))
    (l7 : K.lookup f7 = some ⟨oc7, od7, .func (PySem.W.fnOf "is_integer" "is_integer" (defArgs s_isInt) (defBody s_isInt) (defScope s_isInt) .none kV7 dc7 pm7 an7 cd7 ct7), sl7⟩) (c7 : PySem.W.codeIn K cd7 "is_integer" = true) (k7 : PySem.W.keepIn K (.ref f7) = true)
    (a8 : PySem.W.nsIn K mainGlobals "is_name" = some (some (.ref f8)))
    (l8 : K.lookup f8 = some ⟨oc8, od8, .func (PySem.W.fnOf "is_name" "is_name" (defArgs s_isName) (defBody s_isName) (defScope s_isName) .none kV8 dc8 pm8 an8 cd8 ct8), sl8⟩) (c8 : PySem.W.codeIn K cd8 "is_name" = true) (k8 : PySem.W.keepIn K (.ref f8) = true)
    (a9 : PySem.W.nsIn K mainGlobals "is_ascending" = some (some (.ref f9)))
    (l9 : K.lookup f9 = some ⟨oc9, od9, .func (PySem.W.fnOf "is_ascending" "is_ascending" (defArgs s_isAsc) (defBody s_isAsc) (defScope s_isAsc) .none kV9 dc9 pm9 an9 cd9 ct9), sl9⟩) (c9 : PySem.W.codeIn K cd9 "is_ascending" = true) (k9 : PySem.W.keepIn K (.ref f9) = true)
    (a10 : PySem.W.nsIn K mainGlobals "_is_before" = some (some (.ref f10)))
    (l10 : K.lookup f10 = some ⟨oc10, od10, .func (PySem.W.fnOf "_is_before" "_is_before" (defArgs s_isBef) (defBody s_isBef) (defScope s_isBef) .none kV10 dc10 pm10 an10 cd10 ct10), sl10⟩) (c10 : PySem.W.codeIn K cd10 "_is_before" = true) (k10 : PySem.W.keepIn K (.ref f10) = true)
    (a11 : PySem.W.nsIn K mainGlobals "_are_befores" = some (some (.ref f11)))
    (l11 : K.lookup f11 = some ⟨oc11, od11, .func (PySem.W.fnOf "_are_befores" "_are_befores" (defArgs s_areBef) (defBody s_areBef) (defScope s_areBef) .none kV11 dc11 pm11 an11 cd11 ct11), sl11⟩) (c11 : PySem.W.codeIn K cd11 "_are_befores" = true) (k11 : PySem.W.keepIn K (.ref f11) = true)
    (a12 : PySem.W.nsIn K mainGlobals "_with_following" = some (some (.ref f12)))
    (l12 : K.lookup f12 = some ⟨oc12, od12, .func (PySem.W.fnOf "_with_following" "_with_following" (defArgs s_follow) (defBody s_follow) (defScope s_follow) .none kV12 dc12 pm12 an12 cd12 ct12), sl12⟩) (c12 : PySem.W.codeIn K cd12 "_with_following" = true) (k12 : PySem.W.keepIn K (.ref f12) = true)
    (a13 : PySem.W.nsIn K mainGlobals "befores_by" = some (some (.ref f13)))
    (l13 : K.lookup f13 = some ⟨oc13, od13, .func (PySem.W.fnOf "befores_by" "befores_by" (defArgs s_bby) (defBody s_bby) (defScope s_bby) .none kV13 dc13 pm13 an13 cd13 ct13), sl13⟩) (c13 : PySem.W.codeIn K cd13 "befores_by" = true) (k13 : PySem.W.keepIn K (.ref f13) = true)
    (a14 : PySem.W.nsIn K mainGlobals "lot_of" = some (some (.ref f14)))
    (l14 : K.lookup f14 = some ⟨oc14, od14, .func (PySem.W.fnOf "lot_of" "lot_of" (defArgs s_lotOf) (defBody s_lotOf) (defScope s_lotOf) .none kV14 dc14 pm14 an14 cd14 ct14), sl14⟩) (c14 : PySem.W.codeIn K cd14 "lot_of" = true) (k14 : PySem.W.keepIn K (.ref f14) = true)
    (z_int : PySem.W.nsIn K mainGlobals "int" = some none)
    (z_bool : PySem.W.nsIn K mainGlobals "bool" = some none)
    (z_len : PySem.W.nsIn K mainGlobals "len" = some none)
    (z_range : PySem.W.nsIn K mainGlobals "range" = some none)
    (z_sorted : PySem.W.nsIn K mainGlobals "sorted" = some none)
    (z_set : PySem.W.nsIn K mainGlobals "set" = some none)
    (z_tuple : PySem.W.nsIn K mainGlobals "tuple" = some none)
    (z_list : PySem.W.nsIn K mainGlobals "list" = some none)
    (z_isinstance : PySem.W.nsIn K mainGlobals "isinstance" = some none)
    (z_all : PySem.W.nsIn K mainGlobals "all" = some none)
    (z_any : PySem.W.nsIn K mainGlobals "any" = some none)
    (z_dict : PySem.W.nsIn K mainGlobals "dict" = some none)
    (z_sum : PySem.W.nsIn K mainGlobals "sum" = some none)
    (z_enumerate : PySem.W.nsIn K mainGlobals "enumerate" = some none)
    (z_min : PySem.W.nsIn K mainGlobals "min" = some none)
    (z_max : PySem.W.nsIn K mainGlobals "max" = some none)
    (z_zip : PySem.W.nsIn K mainGlobals "zip" = some none)
    (z_reversed : PySem.W.nsIn K mainGlobals "reversed" = some none)
    (z_repr : PySem.W.nsIn K mainGlobals "repr" = some none)
    (z_str : PySem.W.nsIn K mainGlobals "str" = some none) :
    ∃ fd : FuncData, (∀ (s : Shared) (v : Value), BindsTo s fd ⟨[v], []⟩ [("script", v)]) ∧ ∀ base : Heap, K.In base → base.Ns mainGlobals mg → FnOk l.prog w K mg base CX0 7 fa fd ["script"] (sp_law K) := by
  have e := hfa.symm.trans (PySem.W.mg_of X G a0)
  cases e
  have B : Bl mg := ⟨PySem.W.mg_none_of X G z_int, PySem.W.mg_none_of X G z_bool, PySem.W.mg_none_of X G z_len, PySem.W.mg_none_of X G z_range, PySem.W.mg_none_of X G z_sorted, PySem.W.mg_none_of X G z_set, PySem.W.mg_none_of X G z_tuple, PySem.W.mg_none_of X G z_list, PySem.W.mg_none_of X G z_isinstance, PySem.W.mg_none_of X G z_all, PySem.W.mg_none_of X G z_any, PySem.W.mg_none_of X G z_dict, PySem.W.mg_none_of X G z_sum, PySem.W.mg_none_of X G z_enumerate, PySem.W.mg_none_of X G z_min, PySem.W.mg_none_of X G z_max, PySem.W.mg_none_of X G z_zip, PySem.W.mg_none_of X G z_reversed, PySem.W.mg_none_of X G z_repr, PySem.W.mg_none_of X G z_str⟩
  have F0 := fun_mk (st := s_law) l0 c0 k0
  have F1 := fun_mk (st := s_init) l1 c1 k1
  have b1 := F1.binds (ps := ["self", "many", "befores"]) fun _ _ _ _ _ _ us hl => match us, hl with | [_, _, _], _ => rfl
  have F2 := fun_mk (st := s_eq) l2 c2 k2
  have b2 := F2.binds (ps := ["self", "other"]) fun _ _ _ _ _ _ us hl => match us, hl with | [_, _], _ => rfl
  have F3 := fun_mk (st := s_law_tape) l3 c3 k3
  have b3 := F3.binds (ps := ["script"]) fun _ _ _ _ _ _ us hl => match us, hl with | [_], _ => rfl
  have D3 : Df K mg "_law_tape" s_law_tape ["script"] f3 _ := ⟨F3, b3, PySem.W.mg_of X G a3⟩
  have F4 := fun_mk (st := s_law_pick) l4 c4 k4
  have b4 := F4.binds (ps := ["tape", "many"]) fun _ _ _ _ _ _ us hl => match us, hl with | [_, _], _ => rfl
  have D4 : Df K mg "_law_pick" s_law_pick ["tape", "many"] f4 _ := ⟨F4, b4, PySem.W.mg_of X G a4⟩
  have F5 := fun_mk (st := s_law_pairs) l5 c5 k5
  have b5 := F5.binds (ps := ["tape", "many"]) fun _ _ _ _ _ _ us hl => match us, hl with | [_, _], _ => rfl
  have D5 : Df K mg "_law_pairs" s_law_pairs ["tape", "many"] f5 _ := ⟨F5, b5, PySem.W.mg_of X G a5⟩
  have F6 := fun_mk (st := s_law_closed) l6 c6 k6
  have b6 := F6.binds (ps := ["pairs"]) fun _ _ _ _ _ _ us hl => match us, hl with | [_], _ => rfl
  have D6 : Df K mg "_law_closed" s_law_closed ["pairs"] f6 _ := ⟨F6, b6, PySem.W.mg_of X G a6⟩
  have F7 := fun_mk (st := s_isInt) l7 c7 k7
  have b7 := F7.binds (ps := ["thing"]) fun _ _ _ _ _ _ us hl => match us, hl with | [_], _ => rfl
  have D7 : Df K mg "is_integer" s_isInt ["thing"] f7 _ := ⟨F7, b7, PySem.W.mg_of X G a7⟩
  have F8 := fun_mk (st := s_isName) l8 c8 k8
  have b8 := F8.binds (ps := ["many", "thing"]) fun _ _ _ _ _ _ us hl => match us, hl with | [_, _], _ => rfl
  have D8 : Df K mg "is_name" s_isName ["many", "thing"] f8 _ := ⟨F8, b8, PySem.W.mg_of X G a8⟩
  have F9 := fun_mk (st := s_isAsc) l9 c9 k9
  have b9 := F9.binds (ps := ["items"]) fun _ _ _ _ _ _ us hl => match us, hl with | [_], _ => rfl
  have D9 : Df K mg "is_ascending" s_isAsc ["items"] f9 _ := ⟨F9, b9, PySem.W.mg_of X G a9⟩
  have F10 := fun_mk (st := s_isBef) l10 c10 k10
  have b10 := F10.binds (ps := ["many", "thing"]) fun _ _ _ _ _ _ us hl => match us, hl with | [_, _], _ => rfl
  have D10 : Df K mg "_is_before" s_isBef ["many", "thing"] f10 _ := ⟨F10, b10, PySem.W.mg_of X G a10⟩
  have F11 := fun_mk (st := s_areBef) l11 c11 k11
  have b11 := F11.binds (ps := ["many", "thing"]) fun _ _ _ _ _ _ us hl => match us, hl with | [_, _], _ => rfl
  have D11 : Df K mg "_are_befores" s_areBef ["many", "thing"] f11 _ := ⟨F11, b11, PySem.W.mg_of X G a11⟩
  have F12 := fun_mk (st := s_follow) l12 c12 k12
  have b12 := F12.binds (ps := ["many", "befores"]) fun _ _ _ _ _ _ us hl => match us, hl with | [_, _], _ => rfl
  have D12 : Df K mg "_with_following" s_follow ["many", "befores"] f12 _ := ⟨F12, b12, PySem.W.mg_of X G a12⟩
  have F13 := fun_mk (st := s_bby) l13 c13 k13
  have b13 := F13.binds (ps := ["behind"]) fun _ _ _ _ _ _ us hl => match us, hl with | [_], _ => rfl
  have D13 : Df K mg "befores_by" s_bby ["behind"] f13 _ := ⟨F13, b13, PySem.W.mg_of X G a13⟩
  have F14 := fun_mk (st := s_lotOf) l14 c14 k14
  have b14 := F14.binds (ps := ["many", "bits"]) fun _ _ _ _ _ _ us hl => match us, hl with | [_, _], _ => rfl
  have D14 : Df K mg "lot_of" s_lotOf ["many", "bits"] f14 _ := ⟨F14, b14, PySem.W.mg_of X G a14⟩
  have W : WebC K mg C f1 f2 := ⟨⟨⟨pg, hd, po, sa⟩, iha, ihn, iht, ihm, kit_me⟩, nM, nB, ⟨wm, a1, i1, wk⟩, PySem.W.mg_of X G aC, a2, i2, wne, ⟨_, PySem.W.mg_of X G aN⟩, kit_no (l := [.type "NoneType", .type "object"]) iC tC (by decide +kernel) rfl, kit_no (l := [.type "int", .type "object"]) iC tC (by decide +kernel) rfl, kit_no (l := [.type "tuple", .type "object"]) iC tC (by decide +kernel) rfl, kit_no (l := [.type "list", .type "object"]) iC tC (by decide +kernel) rfl, kit_no (l := [.type "str", .type "object"]) iC tC (by decide +kernel) rfl, kit_no (l := [.type "dict", .type "object"]) iC tC (by decide +kernel) rfl⟩
  exact ⟨PySem.W.fnOf "law" "law" (defArgs s_law) (defBody s_law) (defScope s_law) .none kV0 dc0 pm0 an0 cd0 ct0, fun s v => .of_eq rfl, fun base _ _ => ok_law F0 W F1 b1 F2 b2 D3 D4 D5 D6 D7 D8 D9 D10 D11 D12 D13 D14 B⟩
theorem walk {l : PySem.W.OpenLaw} {q : Program} {loose : List Str} {XP : (Str → Option Value) → Heap → Prop} {YP : World → Heap → Prop} {d : DefRec} {K : Params → PySem.W.Frag} (hn : l.most = some 63) (hdf : d.params.defaults = [])
    (hY : ∀ (w : World) (h : Heap), YP w h → (K w.params).In h)
    (F : ∀ (w : World) (mg : Str → Option Value) (fa : Addr) (h : Heap), (K w.params).In h → h.Ns mainGlobals mg → mg d.name = some (.ref fa) →
      ∃ fd : FuncData, (∀ (s : Shared) (u : Value), BindsTo s fd ⟨[u], []⟩ [("script", u)]) ∧ ∀ base : Heap, (K w.params).In base → base.Ns mainGlobals mg → FnOk l.prog w (K w.params) mg base CX0 7 fa fd ["script"] (sp_law (K w.params))) :
    PySem.W.WalkO q loose XP YP l.row.toRowW d [] (fun f vs => PySem.call f vs) :=
  L2.walk_of (n := 63) (k := 7) (x := "script") (CX := fun _ => CX0) (sp := fun w => sp_law (K w.params)) hn (by decide) hdf ⟨rfl, by decide, by decide⟩ hY F (fun _ _ a ns hl _ hS => ⟨a, ns, rfl, hS, hl, fun _ => rfl⟩) fun _ _ _ _ _ z => z
end Ev
open PySem PySem.W PyProof.Rows
set_option maxRecDepth 100000 in
set_option maxHeartbeats 0 in
theorem PySem.Challenge.cw_evenorders_k03_webs_are_compared_holds : PySem.Challenge.rw_evenorders_k03_webs_are_compared.Holds := by
  w_on; o_law; k_head; (case hw => w_witness2)
  k_fill
  refine Ev.walk (l := PySem.Challenge.rw_evenorders_k03_webs_are_compared) rfl rfl (fun w h Y => PySem.W.kIn_of Y) ?F
  case F =>
    intro w mg fa h KX G hmg
    refine' Ev.all_mk KX G hmg ?aC ?aN ?pg ?hd ?po ?sa ?wm ?wk ?iha ?ihn ?iht ?ihm ?iC ?tC ?nM ?nB ?wne ?a0 ?l0 ?c0 ?k0 ?a1 ?i1 ?l1 ?c1 ?k1 ?a2 ?i2 ?l2 ?c2 ?k2 ?a3 ?l3 ?c3 ?k3 ?a4 ?l4 ?c4 ?k4 ?a5 ?l5 ?c5 ?k5 ?a6 ?l6 ?c6 ?k6 ?a7 ?l7 ?c7 ?k7 ?a8 ?l8 ?c8 ?k8 ?a9 ?l9 ?c9 ?k9 ?a10 ?l10 ?c10 ?k10 ?a11 ?l11 ?c11 ?k11 ?a12 ?l12 ?c12 ?k12 ?a13 ?l13 ?c13 ?k13 ?a14 ?l14 ?c14 ?k14 ?z_int ?z_bool ?z_len ?z_range ?z_sorted ?z_set ?z_tuple ?z_list ?z_isinstance ?z_all ?z_any ?z_dict ?z_sum ?z_enumerate ?z_min ?z_max ?z_zip ?z_reversed ?z_repr ?z_str
    (case aC => k_is)
    (case aN => k_is)
    (case pg => k_is)
    (case hd => k_is)
    (case po => k_is)
    (case sa => k_is)
    (case wm => k_is)
    (case wk => k_is)
    (case iha => k_is)
    (case ihn => k_is)
    (case iht => k_is)
    (case ihm => k_is)
    (case iC => k_is)
    (case tC => k_is)
    (case nM => k_is)
    (case nB => k_is)
    (case wne => k_is)
    (case a0 => k_is)
    (case l0 => k_is)
    (case c0 => k_is)
    (case k0 => k_is)
    (case a1 => k_is)
    (case i1 => k_is)
    (case l1 => k_is)
    (case c1 => k_is)
    (case k1 => k_is)
    (case a2 => k_is)
    (case i2 => k_is)
    (case l2 => k_is)
    (case c2 => k_is)
    (case k2 => k_is)
    (case a3 => k_is)
    (case l3 => k_is)
    (case c3 => k_is)
    (case k3 => k_is)
    (case a4 => k_is)
    (case l4 => k_is)
    (case c4 => k_is)
    (case k4 => k_is)
    (case a5 => k_is)
    (case l5 => k_is)
    (case c5 => k_is)
    (case k5 => k_is)
    (case a6 => k_is)
    (case l6 => k_is)
    (case c6 => k_is)
    (case k6 => k_is)
    (case a7 => k_is)
    (case l7 => k_is)
    (case c7 => k_is)
    (case k7 => k_is)
    (case a8 => k_is)
    (case l8 => k_is)
    (case c8 => k_is)
    (case k8 => k_is)
    (case a9 => k_is)
    (case l9 => k_is)
    (case c9 => k_is)
    (case k9 => k_is)
    (case a10 => k_is)
    (case l10 => k_is)
    (case c10 => k_is)
    (case k10 => k_is)
    (case a11 => k_is)
    (case l11 => k_is)
    (case c11 => k_is)
    (case k11 => k_is)
    (case a12 => k_is)
    (case l12 => k_is)
    (case c12 => k_is)
    (case k12 => k_is)
    (case a13 => k_is)
    (case l13 => k_is)
    (case c13 => k_is)
    (case k13 => k_is)
    (case a14 => k_is)
    (case l14 => k_is)
    (case c14 => k_is)
    (case k14 => k_is)
    (case z_int => k_is)
    (case z_bool => k_is)
    (case z_len => k_is)
    (case z_range => k_is)
    (case z_sorted => k_is)
    (case z_set => k_is)
    (case z_tuple => k_is)
    (case z_list => k_is)
    (case z_isinstance => k_is)
    (case z_all => k_is)
    (case z_any => k_is)
    (case z_dict => k_is)
    (case z_sum => k_is)
    (case z_enumerate => k_is)
    (case z_min => k_is)
    (case z_max => k_is)
    (case z_zip => k_is)
    (case z_reversed => k_is)
    (case z_repr => k_is)
    (case z_str => k_is)
