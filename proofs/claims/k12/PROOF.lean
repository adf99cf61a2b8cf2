import PyProof.Rows.All
import Wide.All
import OpenK.AllK
import Wide.FinOn
import HandS.ForMost
import HandS.Wide
import HandS.WideMore
import HandS.IsInst
import HandS.Gcd
import HandS.Style
import HandS.Zip
import HandS.TupAny
import HandS.SortInts
import PyProof.ReprRoads
import HandS.Ends
import HandS.Star
import KE.GoesEnum
import HandS.Walk
import PyProof.Rows.RegStrFacts
import PyProof.CallFns
import KE.KDictKeyed
import KE.KeyNested
import HandS.DictTup
import HandS.Iter
import KE.SortData
import KE.DataCmp
import HandS.TupMul
import PySem.Challenge.RW_slantpanes_k12_tints_at_far_cells
import HandS.Evl
import HandS.HeadHook2
set_option Elab.async false
set_option linter.all false
set_option maxRecDepth 100000
set_option maxHeartbeats 8000000
set_option exponentiation.threshold 3000
/-! Periods by their primes: plain mathematics. -/
namespace KM
def PN : List Nat := [2, 3, 5, 7, 11, 13, 17, 19, 23, 29]
theorem PN_nodup : PN.Nodup := by decide
theorem PN_lt : ∀ p ∈ PN, 2 ≤ p ∧ p ≤ 29 := by decide
theorem PN_div0 : ∀ p ∈ PN, ∀ d < 30, d ∣ p → d = 1 ∨ d = p := by decide
theorem PN_div {p d : Nat} (hp : p ∈ PN) (h : d ∣ p) : d = 1 ∨ d = p := by
  have := PN_lt p hp
  have := Nat.le_of_dvd (by omega) h
  exact PN_div0 p hp d (by omega) h
theorem cop_of {p a : Nat} (hp : p ∈ PN) (h : ¬ p ∣ a) : Nat.Coprime p a := by
  rcases PN_div hp (Nat.gcd_dvd_left p a) with e | e
  · exact e
  · exact absurd (e ▸ Nat.gcd_dvd_right p a) h
theorem dvd_mul_of {p a b : Nat} (hp : p ∈ PN) (h : p ∣ a * b) : p ∣ a ∨ p ∣ b := by
  by_cases c : p ∣ a
  · exact .inl c
  · exact .inr ((cop_of hp c).dvd_of_dvd_mul_left h)
theorem dvd_pow_of {p a : Nat} (hp : p ∈ PN) : ∀ {e : Nat}, p ∣ a ^ e → p ∣ a
  | 0, h => by
    have := PN_lt p hp
    have := Nat.le_of_dvd (by omega) (show p ∣ 1 from h)
    omega
  | e + 1, h => by
    rw [Nat.pow_succ] at h
    rcases dvd_mul_of hp h with h | h
    · exact dvd_pow_of hp h
    · exact h
theorem eq_of_dvd {p q : Nat} (hp : p ∈ PN) (hq : q ∈ PN) (h : p ∣ q) : p = q := by
  have := PN_lt p hp
  rcases PN_div hq h with e | e <;> omega

/-- a period by its primes and exponents -/
def mOf : List (Nat × Nat) → Nat
  | [] => 1
  | x :: r => x.1 ^ x.2 * mOf r
structure Pw (pw : List (Nat × Nat)) : Prop where
  sub : (pw.map (·.1)).Sublist PN
  pos : ∀ x ∈ pw, 1 ≤ x.2
theorem Pw.mem {pw : List (Nat × Nat)} (h : Pw pw) {x : Nat × Nat} (hx : x ∈ pw) : x.1 ∈ PN := h.sub.subset (List.mem_map_of_mem hx)
theorem Pw.tail {x : Nat × Nat} {pw : List (Nat × Nat)} (h : Pw (x :: pw)) : Pw pw :=
  ⟨(List.sublist_cons_self x.1 (pw.map fun y => y.1)).trans (show (x.1 :: pw.map fun y => y.1).Sublist PN from h.sub), fun y hy => h.pos y (List.mem_cons_of_mem _ hy)⟩
theorem Pw.nodup {pw : List (Nat × Nat)} (h : Pw pw) : (pw.map (·.1)).Nodup := h.sub.nodup PN_nodup
theorem mOf_pos : ∀ {pw : List (Nat × Nat)}, Pw pw → 1 ≤ mOf pw
  | [], _ => Nat.le_refl 1
  | x :: r, h => by
    have h1 := mOf_pos h.tail
    have h2 := PN_lt _ (h.mem List.mem_cons_self)
    have h3 : 0 < x.1 ^ x.2 := Nat.pow_pos (by omega)
    exact Nat.mul_pos h3 h1
theorem dvd_mOf {p : Nat} (hp : p ∈ PN) : ∀ {pw : List (Nat × Nat)}, Pw pw → (p ∣ mOf pw ↔ p ∈ pw.map (·.1))
  | [], _ => by
    have := PN_lt p hp
    refine ⟨fun h => ?_, fun h => by cases h⟩
    have := Nat.le_of_dvd (by omega) (show p ∣ 1 from h)
    omega
  | x :: r, h => by
    have ih := dvd_mOf hp h.tail
    rw [List.map_cons, List.mem_cons]
    constructor
    · intro d
      rcases dvd_mul_of hp (show p ∣ x.1 ^ x.2 * mOf r from d) with d | d
      · exact .inl (eq_of_dvd hp (h.mem List.mem_cons_self) (dvd_pow_of hp d))
      · exact .inr (ih.mp d)
    · rintro (e | e)
      · subst e
        have := h.pos x List.mem_cons_self
        exact Nat.dvd_trans (Nat.dvd_trans (by rw [show x.1 ^ x.2 = x.1 * x.1 ^ (x.2 - 1) by rw [Nat.mul_comm, ← Nat.pow_succ]; congr 1; omega]; exact Nat.dvd_mul_right _ _) (Nat.dvd_refl _)) (Nat.dvd_mul_right _ _)
      · exact Nat.dvd_trans (ih.mpr e) (Nat.dvd_mul_left _ _)
theorem filter_sub {α : Type} [DecidableEq α] : ∀ {s l : List α}, s.Sublist l → l.Nodup → l.filter (fun x => decide (x ∈ s)) = s
  | _, _, .slnil, _ => rfl
  | s, x :: l, .cons _ h, n => by
    have hx : x ∉ s := fun z => (List.nodup_cons.mp n).1 (h.subset z)
    rw [List.filter_cons_of_neg (by simpa using hx)]
    exact filter_sub h (List.nodup_cons.mp n).2
  | x :: s, _ :: l, .cons₂ _ h, n => by
    rw [List.filter_cons_of_pos (by simp)]
    congr 1
    have n' := (List.nodup_cons.mp n)
    rw [show l.filter (fun y => decide (y ∈ x :: s)) = l.filter (fun y => decide (y ∈ s)) from List.filter_congr fun y hy => by
      have : y ≠ x := fun e => n'.1 (e ▸ hy)
      simp [this]]
    exact filter_sub h n'.2
theorem primes_mOf {pw : List (Nat × Nat)} (h : Pw pw) : PN.filter (fun p => decide (p ∣ mOf pw)) = pw.map (·.1) := by
  rw [← filter_sub h.sub PN_nodup]
  refine List.filter_congr fun p hp => ?_
  simp only [dvd_mOf hp h, filter_sub h.sub PN_nodup]
/-- the power of the first prime -/
theorem part_first {x : Nat × Nat} {r : List (Nat × Nat)} (h : Pw (x :: r)) {k : Nat} (h1 : x.1 ^ k ∣ mOf (x :: r)) (h2 : ¬ x.1 ^ (k + 1) ∣ mOf (x :: r)) : k = x.2 := by
  have hp := h.mem List.mem_cons_self
  have p2 := PN_lt _ hp
  rcases Nat.lt_trichotomy k x.2 with c | c | c
  · exact absurd (Nat.dvd_trans (Nat.pow_dvd_pow x.1 c) (Nat.dvd_mul_right _ _)) h2
  · exact c
  · have d : x.1 ^ (x.2 + 1) ∣ x.1 ^ x.2 * mOf r := Nat.dvd_trans (Nat.pow_dvd_pow x.1 c) h1
    rw [Nat.pow_succ] at d
    have d2 : x.1 ∣ mOf r := Nat.dvd_of_mul_dvd_mul_left (Nat.pow_pos (by omega)) d
    have := (dvd_mOf hp h.tail).mp d2
    exact absurd this (List.nodup_cons.mp h.nodup).1
theorem cop_pow {p g : Nat} (h : Nat.Coprime p g) (e : Nat) : Nat.Coprime (p ^ e) g := Nat.Coprime.pow_left e h
/-- what divides a period and is not 1 is divisible by one of its primes -/
theorem prime_in {g : Nat} : ∀ {pw : List (Nat × Nat)}, Pw pw → g ∣ mOf pw → (∀ x ∈ pw, ¬ x.1 ∣ g) → g = 1
  | [], _, h, _ => Nat.dvd_one.mp h
  | x :: r, hw, h, hn => by
    have c : Nat.Coprime (x.1 ^ x.2) g := cop_pow (cop_of (hw.mem List.mem_cons_self) (hn x List.mem_cons_self)) _
    exact prime_in hw.tail (c.symm.dvd_of_dvd_mul_left h) fun y hy => hn y (List.mem_cons_of_mem _ hy)
/-- the prime powers divide a number exactly if their product does -/
theorem parts_dvd {g : Nat} : ∀ {pw : List (Nat × Nat)}, Pw pw → ((∀ x ∈ pw, x.1 ^ x.2 ∣ g) ↔ mOf pw ∣ g)
  | [], _ => ⟨fun _ => Nat.one_dvd g, fun _ _ h => by cases h⟩
  | x :: r, hw => by
    have ih := parts_dvd (g := g) hw.tail
    have c : Nat.Coprime (x.1 ^ x.2) (mOf r) := by
      refine cop_pow (cop_of (hw.mem List.mem_cons_self) fun d => ?_) _
      exact (List.nodup_cons.mp hw.nodup).1 ((dvd_mOf (hw.mem List.mem_cons_self) hw.tail).mp d)
    constructor
    · intro h
      exact c.mul_dvd_of_dvd_of_dvd (h x List.mem_cons_self) (ih.mp fun y hy => h y (List.mem_cons_of_mem _ hy))
    · intro h y hy
      rcases List.mem_cons.mp hy with rfl | hy
      · exact Nat.dvd_trans (Nat.dvd_mul_right _ _) h
      · exact ih.mpr (Nat.dvd_trans (Nat.dvd_mul_left _ _) h) y hy
theorem part_dvd_mOf {pw : List (Nat × Nat)} (h : Pw pw) {x : Nat × Nat} (hx : x ∈ pw) : x.1 ^ x.2 ∣ mOf pw := (parts_dvd h).mpr (Nat.dvd_refl _) x hx
/-- numbers that no prime of the period divides -/
theorem unit_cop {u : Nat} {pw : List (Nat × Nat)} (h : Pw pw) (hu : ∀ x ∈ pw, ¬ x.1 ∣ u) : Nat.Coprime u (mOf pw) := by
  refine prime_in h (Nat.gcd_dvd_right u (mOf pw)) fun x hx d => ?_
  exact hu x hx (Nat.dvd_trans d (Nat.gcd_dvd_left _ _))
end KM
/-! Calls where nothing is under way of being shown (guards known empty), so that repr of tuples is exact. -/
namespace Kw
open PySem PySem.Spec PyProof.Rows L2

abbrev Quiet (A : Around) : Prop := A.guards = some []

/-- as the layer's promise of a def, asked only where nothing is under way -/
structure GFn (P : Program) (w : World) (K : PySem.W.Frag) (mg : Str → Option Value) (base : Heap)
    (k : Nat) (f : Addr) (fd : FuncData) (ps : List Str) (sp : Sp) : Prop where
  len : ∀ vs H Q E, sp vs H Q E → vs.length = ps.length
  go : ∀ (A : Around), Quiet A → ∀ (outer : List Env) (s : Shared) (H : Hp) (args : Args) (us : List Value)
    (vs : List V) (Q : VK) (E : XK), Room k A → Env0 P w K mg base A outer s H → BindsTo s fd args (ps.zip us) →
    Vals vs us → sp vs H Q E → codeAny (model P w) A (.call (.ref f) args) (CR CX0 outer P w H s Q E) s

section
variable {P : Program} {w : World} {K : PySem.W.Frag} {mg : Str → Option Value} {base : Heap}
  {k j : Nat} {f : Addr} {fd : FuncData} {ps N : List Str} {sp : Sp} {x qual : Str} {st : Stmt}

theorem GFn.mono (F : GFn P w K mg base j f fd ps sp) (h : j ≤ k) : GFn P w K mg base k f fd ps sp :=
  ⟨F.len, fun A g outer s H args us vs Q E hr => F.go A g outer s H args us vs Q E (hr.mono h)⟩
theorem gfn (F : FnOk P w K mg base CX0 k f fd ps sp) : GFn P w K mg base k f fd ps sp :=
  ⟨F.len, fun A _ outer s H args us vs Q E => F.run A outer s H args us vs Q E⟩

/-- the rule for a def of the text -/
theorem gfn_of (F : Fun K x qual st f fd) (S : FnScope N ps (defScope st)) (len : ∀ vs H Q E, sp vs H Q E → vs.length = ps.length)
    (body : ∀ (cdv : Value) (A : Around) (outer : List Env) (s : Shared) (H : Hp) (vs : List V) (Q : VK) (E : XK),
      Quiet (A.deeper (envOfC qual (defScope st) s.heap.objs.size f cdv)) →
      Room k (A.deeper (envOfC qual (defScope st) s.heap.objs.size f cdv)) → sp vs H Q E →
      ∃ t, PSs (cxOf CX0 P w K mg base N qual (defScope st) f cdv A outer s H E).nox (defBody st) t ∧
        t { nx := fun _ H' => Q .non H', rt := Q } (start N vs) H) :
    GFn P w K mg base (k + 1) f fd ps sp := by
  obtain ⟨oc, od, kV, doc, pm, an, cdv, ct, osl, efd, lk, hcd⟩ := F.ex
  subst efd
  constructor
  · exact len
  intro A gA outer s H args us vs Q E room env bind rel want
  have old := fun b o e => (env.bs b o e).1
  have inS : K.In s.heap := env.mod.kin.keeps old
  have noLim : s.heap.NoLimit := env.mod.nolimit.keeps old
  have nL := len _ _ _ _ want
  have kinds : ∀ y ∈ ps.zip us, (defScope st).names.lookup y.1 = some .local ∨
      ((defScope st).names.lookup y.1 = some .cell ∧ ((cellsFrom (s.heap.objs.size + 1) (defScope st).names []).lookup y.1).isSome = true) := by
    intro y hy
    have hm : y.1 ∈ ps := (List.of_mem_zip (a := y.1) (b := y.2) hy).1
    cases S.par y.1 hm with
    | inl q => exact Or.inl q
    | inr q => exact Or.inr ⟨q, PySem.W.cellsFrom_some _ _ _ (Or.inl q)⟩
  apply codeAny_call_function room.depth (inS _ _ lk) rfl S.co S.gen rfl (PySem.W.codeRec_of inS hcd)
  apply bind
  refine wpAny_newFunctionEnv_cells S.kind kinds ?_
  intro env' e' s1 made
  cases e'
  refine ⟨noLim.keeps made.toInCall.keep, codeAny_func ?_⟩
  obtain ⟨t, der, read⟩ := body cdv A outer s H vs Q E gA (room.deeper _) want
  have I0 := inv_start (CX := CX0) (N := N) (E := E) (cd := cdv) (qual := qual) S room.hd env nL rel made
  have ran := der.nox.run [] s1 (start N vs) H _ I0 read
  refine wpAny_mono ran ?_ (fun _ _ z => z)
  intro fl s2 out
  cases fl with
  | brk => obtain ⟨_, _, _, z⟩ := out; exact z.elim
  | cont => obtain ⟨_, _, _, z⟩ := out; exact z.elim
  | next =>
    obtain ⟨_, H2, J, z⟩ := out
    exact ⟨V.non, H2, J.os, J.bare, J.base, J.hok, rfl, z⟩
  | ret u =>
    obtain ⟨v, _, H2, J, rv, z⟩ := out
    exact ⟨v, H2, J.os, J.bare, J.base, J.hok, rv, z⟩
end

section
variable {X : Cx} {k : Nat} {f : Addr} {fd : FuncData} {ps ks : List Str} {sp : Sp} {dvs : List V} {ds : List Value}
  {x : Str} {p pos kpos : Pos} {e : Expr} {es : List Expr} {t tk : TA} {kws : List Keyword}

def Back (X : Cx) (pins : List (Addr × Obj)) (σ : L2.St) (Q : VK) : Result → Shared → Prop
  | .ok (.ret u), s' => EP X pins σ Q u s'
  | _, _ => False
theorem out_of {pins : List (Addr × Obj)} {σ : L2.St} {H : Hp} {s s' : Shared} {Q : VK} {r : Result} (I : Inv X pins σ H s)
    (h : CR CX0 X.stack X.prog X.w H s Q E0 r s') : Back X pins σ Q r s' := by
  match r, h with
  | .ok (.ret u), h => exact I.after h
  | .ok .next, h => exact h
  | .ok .brk, h => exact h
  | .ok .cont, h => exact h
  | .error _, h => exact h

theorem g_run {pins : List (Addr × Obj)} {σ : L2.St} {H : Hp} {s : Shared} {Q : VK} {args : Args} {us : List Value} {vs : List V}
    (G : GFn X.prog X.w X.K X.mg X.base k f fd ps sp) (q : Quiet X.A) (hr : Room k X.A) (I : Inv X pins σ H s)
    (b : BindsTo s fd args (ps.zip us)) (r : Vals vs us) (h : sp vs H Q E0) :
    codeAny (model X.prog X.w) X.A (.call (.ref f) args) (Back X pins σ Q) s :=
  codeAny_mono (G.go X.A q X.stack s H args us vs Q E0 hr I.env0 b r h) fun _ _ z => out_of I z

/-- f(e, ..) -/
theorem pe_callG (G : GFn X.prog X.w X.K X.mg X.base k f fd ps sp) (q : Quiet X.A) (hr : Room k X.A) (hg : Gl X x) (hm : X.mg x = some (.ref f))
    (hk : PySem.W.keepIn X.K (.ref f) = true) (hb : Binds X.K fd ps ds) (hd : Vals dvs ds) (ha : PA X (e :: es) t)
    (hdb : (x == ("__debug__" : Str)) = false := by decide)
    (he : starEach (e :: es) X.env = (false, eval e X.env) :: starEach es X.env := by rfl)
    (hpl : (backTo pos (starEach es X.env)).any (·.1) = false := by rfl) :
    PE X (.Call (.Name x p) (e :: es) [] pos) (tCall sp dvs E0 t) := by
  constructor
  intro pins s σ H Q I want
  refine wpAny_Call_Name_kw (ld_glob I hg hm ?_ hdb)
  refine PySem.W.callWith_K (h₀ := X.base) I.ok.mod.kin hk ?_ he hpl
  refine thn (ha.run pos pins s σ H _ I want) ?_
  rintro us s1 ⟨vs, H1, I1, r, w1⟩
  refine ⟨I1.kIn, ?_⟩
  have r2 := r.append hd
  have n2 : (us ++ ds).length = ps.length := r2.length.symm.trans (G.len _ _ _ _ w1)
  refine wpAny_call (codeAny_mono (g_run G q hr I1 (hb s1 us I1.kIn n2) r2 w1) ?_)
  intro r s2 z
  match r, z with
  | .ok (.ret u), z => exact z

/-- f(e, .., k = v, ..) -/
theorem pe_callKG {g : List Value → List Value → List Value} {gV : List V → List V → List V} (G : GFn X.prog X.w X.K X.mg X.base k f fd ps sp) (q : Quiet X.A) (hr : Room k X.A) (hg : Gl X x)
    (hm : X.mg x = some (.ref f)) (hk : PySem.W.keepIn X.K (.ref f) = true) (hb : KBinds X.K fd ps ks g gV) (ha : PA X (e :: es) t) (hkw : PK X kws tk)
    (hall : (backToKw pos (keywordEach kws X.env)).all (·.1.isSome) = true := by rfl)
    (hks : (backToKw pos (keywordEach kws X.env)).filterMap (·.1) = ks := by rfl)
    (hdb : (x == ("__debug__" : Str)) = false := by decide)
    (he : starEach (e :: es) X.env = (false, eval e X.env) :: starEach es X.env := by rfl)
    (hpl : ((backTo pos (starEach (e :: es) X.env)).any (·.1) || (backToKw pos (keywordEach kws X.env)).any (·.1.isNone)) = false := by rfl) :
    PE X (.Call (.Name x p) (e :: es) kws pos) (tCallK sp gV E0 t tk) := by
  constructor
  intro pins s σ H Q I want
  refine wpAny_Call_Name_kw (ld_glob I hg hm ?_ hdb)
  refine PySem.W.callWith_KW (h₀ := X.base) I.ok.mod.kin hk hall ?_ hpl he
  refine thn (ha.run pos pins s σ H _ I want) ?_
  rintro us s1 ⟨vs, H1, I1, r, w1⟩
  refine thn (hkw.run pos pins s1 σ H1 _ I1 w1) ?_
  rintro ws s2 ⟨zs, H2, I2, rz, w2⟩
  refine ⟨I2.kIn, ?_⟩
  rw [hks]
  have r2 := hb.rel r rz
  have n2 : (g us ws).length = ps.length := r2.length.symm.trans (G.len _ _ _ _ w2)
  refine wpAny_call (codeAny_mono (g_run G q hr I2 (hb.to s2 us ws I2.kIn n2) r2 w2) ?_)
  intro r s3 z
  match r, z with
  | .ok (.ret u), z => exact z

/-- repr of data of lists and tuples -/
def rRepr (K : PySem.W.Frag) : List V → Hp → VK → Prop := fun xs H Q => ∃ (a : Addr) (d : PyData), xs = [.ref a] ∧ Dp K H (.ref a) d ∧
  d.showable = true ∧ d.hasDict = false ∧ d.depth ≤ 40 ∧ d.shown.length ≤ sizeLine ∧ Q (.str d.shown) H
theorem call_reprD (q : Quiet X.A) (hu : X.A.units + 64 < cLine) : CallR X (.builtin "repr") (rRepr X.K) := by
  intro pins s σ H xs us Q I r h
  obtain ⟨a, d, rfl, hd, h1, h2, h3, h4, w1⟩ := h
  obtain ⟨u, rfl, ru⟩ := vals1 r
  obtain rfl : u = Value.ref a := ru
  obtain ⟨as, rd⟩ := Dp.reads I d _ _ hd rfl
  refine repr_of_reads' rd h1 (PyData.noDict_hsm h2) q (by omega) (fun _ _ e => e) ?_ h4
  intro h' u tk keep
  exact ⟨.str d.shown, H, I.kept (t' := tk) keep, ⟨u, rfl⟩, w1⟩
end
end Kw
namespace Kw
open PySem PySem.Spec PyProof.Rows L2

/-- what stands tracked at the law's call: the script alone, or nothing -/
structure Entry (P : Program) (w : World) (K : PySem.W.Frag) (a : Addr) (xs : List V) (h : Heap) (H : Hp) : Prop where
  only : Only H
  seq : SqL K H a xs
  ok : HOk P w H h
  one : ∀ b, H b ≠ none → b = a ∧ K.lookup b = none

theorem entry_made {P : Program} {w : World} {K : PySem.W.Frag} {a : Addr} {vs : List Value} {ns : List Int} {h : Heap} (KX : K.In h)
    (ha : h.get? a = some { cls := .type "list", data := .seq vs.toArray }) (hi : IntsAre vs ns) (hl : ns.length ≤ sizeLine) :
    ∃ H, Entry P w K a (ns.map V.int) h H := by
  have rv : Vals (ns.map V.int) vs := vals_ints hi
  have hl' : (ns.map V.int).length ≤ sizeLine := by simpa using hl
  cases e : K.lookup a with
  | some o =>
    obtain rfl : o = { cls := .type "list", data := .seq vs.toArray } := Option.some.inj ((KX a o e).symm.trans ha)
    refine ⟨fun _ => none, fun _ => .inl rfl, ?_, fun b u z => by simp at z, fun b z => absurd rfl z⟩
    exact .inr ⟨_, vs.toArray, _, e, rfl, rfl, rfl, by rw [List.size_toArray, hi.length]; exact hl, by simpa using rv⟩
  | none =>
    let o : Obj := { cls := .type "list", data := .seq vs.toArray }
    let H : Hp := fun b => if b = a then some (.frz o (.lst (ns.map V.int))) else none
    have at_a : H a = some (.frz o (.lst (ns.map V.int))) := if_pos rfl
    have elsewhere : ∀ b, b ≠ a → H b = none := fun b hb => if_neg hb
    refine ⟨H, ?_, .inl (.inr ⟨o, at_a⟩), ?_, ?_⟩
    · intro b
      rcases Classical.em (b = a) with rfl | hb
      · exact .inr ⟨_, _, at_a⟩
      · exact .inl (elsewhere b hb)
    · intro b u z
      rcases Classical.em (b = a) with rfl | hb
      · rw [at_a] at z
        cases z
        exact ⟨ha, hl', vs, _, rv, ha⟩
      · rw [elsewhere b hb] at z
        cases z
    · intro b z
      rcases Classical.em (b = a) with rfl | hb
      · exact ⟨rfl, e⟩
      · exact absurd (elsewhere b hb) z

theorem law_callG {P : Program} {w : World} {K : PySem.W.Frag} {mg mb : Str → Option Value} {k : Nat} {fa a : Addr} {fd : FuncData} {x : Str} {sp : Sp} {s : Shared} {vs : List Value} {ns : List Int}
    (KX : K.In s.heap) (hns : s.heap.Ns mainGlobals mg) (hb : s.heap.Ns builtinsNs mb) (hbb : ∀ x : Str, x ≠ "__name__" → mb x = bootBuiltins x)
    (hlim : s.heap.NoLimit) (hg : s.gens = #[]) (ha : s.heap.get? a = some { cls := .type "list", data := .seq vs.toArray })
    (hi : IntsAre vs ns) (hl : ns.length ≤ sizeLine) (hr : Room k callerA)
    (F : ∀ base : Heap, K.In base → base.Ns mainGlobals mg → GFn P w K mg base k fa fd [x] sp)
    (bind : ∀ (s : Shared) (u : Value), BindsTo s fd ⟨[u], []⟩ [(x, u)])
    (want : ∀ H : Hp, SqL K H a (ns.map V.int) → sp [.ref a] H (fun v _ => v = .bl true) E0) :
    codeAny (model P w) callerA (.call (.ref fa) ⟨[.ref a], []⟩)
      (fun r s' => r = .ok (.ret (.bool true)) ∧ OldK s.heap s'.heap ∧ s'.os = s.os ∧ AllBare s'.gens) s := by
  obtain ⟨H, T⟩ := entry_made (P := P) (w := w) KX ha hi hl
  -- a dict is never the script, so the dicts of the modules stay in the base
  have noDict : ∀ {b : Addr} {o : Obj} {es : Array DictEntry} {ep : Nat}, s.heap.get? b = some o → o.data = .dict es ep → H b = none := by
    intro b o es ep e d
    cases q : H b with
    | none => rfl
    | some u =>
      obtain ⟨rfl, _⟩ := T.one b (by simp [q])
      rw [ha] at e
      cases e
      cases d
  have ns_base : ∀ {b : Addr} {m : Str → Option Value}, s.heap.Ns b m → (hidT s.heap H).Ns b m := by
    rintro b m ⟨o, es, ep, e, d, r⟩
    exact ⟨o, es, ep, hidT_get e (noDict e d), d, r⟩
  have K_base : K.In (hidT s.heap H) := by
    intro b o e
    refine hidT_get (KX b o e) ?_
    cases q : H b with
    | none => rfl
    | some u =>
      have z := (T.one b (by simp [q])).2
      rw [z] at e
      cases e
  have mod : Mod K mg (hidT s.heap H) := by
    obtain ⟨mc, l1, l2⟩ := hlim
    exact ⟨K_base, ns_base hns, ⟨mb, ns_base hb, hbb⟩, mc, ns_base l1, l2⟩
  have env : Env0 P w K mg (hidT s.heap H) callerA [] s H :=
    { frames := rfl, mod := mod, bs := fun b o e => of_hidT e, bsz := Nat.le_of_eq (hidT_size _ _), funs := trivial,
      frf := fun b z => absurd (show b ∈ ([] : List Addr) from z) (by simp), hok := T.ok, bare := .of_eq hg }
  refine codeAny_mono ((F _ K_base (ns_base hns)).go callerA rfl [] s H ⟨[.ref a], []⟩ [.ref a] [.ref a] _ _ hr env (bind s (.ref a)) (.cons rfl .nil) (want H T.seq)) ?_
  intro r s' z
  match r, z with
  | .ok (.ret u), z =>
    obtain ⟨v, H', os, bare, un, ok', rv, ev⟩ := z
    have ev : v = .bl true := ev
    subst ev
    obtain rfl : u = Value.bool true := rv
    refine ⟨rfl, OldK.of_keep ?_, os, bare⟩
    intro b o e
    cases q : H b with
    | none => exact un.keep b o e q (fun z => absurd (show b ∈ ([] : List Addr) from z) (by simp)) (by simp)
    | some u =>
      rcases T.only b with z | ⟨ob, xs, z⟩
      · rw [q] at z; cases z
      · have e1 := (T.ok b _ z).1
        have e2 := (ok' b _ (un.frzs b ob _ z)).1
        rw [e] at e1
        cases e1
        exact e2

theorem walk_G {l : PySem.W.OpenLaw} {n k : Nat} {q : Program} {loose : List Str} {XP : (Str → Option Value) → Heap → Prop} {YP : World → Heap → Prop} {d : DefRec} {K : Params → PySem.W.Frag} {sp : PySem.W.Frag → Sp} {x : Str}
    (hn : l.most = some n) (hn2 : n ≤ sizeLine) (hdf : d.params.defaults = []) (hr : Room k callerA) (hY : ∀ (w : World) (h : Heap), YP w h → (K w.params).In h)
    (F : ∀ (w : World) (mg : Str → Option Value) (fa : Addr) (h : Heap), (K w.params).In h → h.Ns mainGlobals mg → mg d.name = some (.ref fa) →
      ∃ fd : FuncData, (∀ (s : Shared) (u : Value), BindsTo s fd ⟨[u], []⟩ [(x, u)]) ∧
        ∀ base : Heap, (K w.params).In base → base.Ns mainGlobals mg → GFn l.prog w (K w.params) mg base k fa fd [x] (sp (K w.params)))
    (want : ∀ (K : PySem.W.Frag) (H : Hp) (a : Addr) (ns : List Int), ns.length ≤ n → SqL K H a (ns.map V.int) → sp K [.ref a] H (fun v _ => v = .bl true) E0) :
    PySem.W.WalkO q loose XP YP l.row.toRowW d [] (fun f vs => PySem.call f vs) := by
  apply Att.attach_call hn hdf
  intro w s₀ s₁ mg mb fa o pm cd doc a vs ns G Y ho hd hcd hmg hobj hints hlen hg
  obtain ⟨fd, b, go⟩ := F w mg fa s₁.heap (hY w _ Y) G.T.g hmg
  exact law_callG (hY w _ Y) G.T.g G.T.b G.T.builtins G.T.nolimit hg hobj hints (Nat.le_trans hlen hn2) hr go b (fun H z => want _ H a ns hlen z)
end Kw
namespace Kw
open PySem PySem.Spec PyProof.Rows L2 RZ StX SrtO
section
variable {X : Cx} {k : Nat} {f : Addr} {fd : FuncData} {ps ks : List Str} {sp : Sp} {x : Str} {p pos : Pos} {e : Expr} {es : List Expr} {t tk : TA} {kws : List Keyword}

theorem ip_mulW : PIp X .Mult (rI CMulW fun i j => .int (i * j)) := by
  intro pins s σ H x y v u Q I rx ry h
  obtain ⟨i, j, rfl, rfl, hc, q⟩ := h
  obtain ⟨t, rfl⟩ := rx
  obtain ⟨t', rfl⟩ := ry
  exact imul_int ⟨.int _, H, I.tok _, ⟨_, rfl⟩, q⟩ hc.ok
theorem ip_fdivW : PIp X .FloorDiv (rI CDivW fun i j => .int (i / j)) := fun pins s σ H x y v u Q I rx ry h => iop_fdivW pins s σ H x y v u Q I rx ry h

/-- f(k = v, ..): names alone -/
def tCallN (sp : Sp) (gV : List V → List V → List V) (t : TA) : TE := fun σ H Q => t σ H fun zs H1 => sp (gV [] zs) H1 Q E0
theorem pe_callN {g : List Value → List Value → List Value} {gV : List V → List V → List V} (G : GFn X.prog X.w X.K X.mg X.base k f fd ps sp) (q : Quiet X.A) (hr : Room k X.A) (hg : Gl X x)
    (hm : X.mg x = some (.ref f)) (hk : PySem.W.keepIn X.K (.ref f) = true) (hb : KBinds X.K fd ps ks g gV) (hkw : PK X kws tk)
    (hall : (backToKw pos (keywordEach kws X.env)).all (·.1.isSome) = true := by rfl)
    (hks : (backToKw pos (keywordEach kws X.env)).filterMap (·.1) = ks := by rfl)
    (hdb : (x == ("__debug__" : Str)) = false := by decide)
    (hpl : ((backTo pos (starEach [] X.env)).any (·.1) || (backToKw pos (keywordEach kws X.env)).any (·.1.isNone)) = false := by rfl) :
    PE X (.Call (.Name x p) [] kws pos) (tCallN sp gV tk) := by
  constructor
  intro pins s σ H Q I want
  refine wpAny_Call_Name_kw (ld_glob I hg hm ?_ hdb)
  refine PySem.W.callWith_KW0 (h₀ := X.base) I.ok.mod.kin hk hall ?_ hpl
  refine thn (hkw.run pos pins s σ H _ I want) ?_
  rintro ws s2 ⟨zs, H2, I2, rz, w2⟩
  refine ⟨I2.kIn, ?_⟩
  rw [hks]
  have r2 := hb.rel (vs := []) (us := []) .nil rz
  have n2 : (g [] ws).length = ps.length := r2.length.symm.trans (G.len _ _ _ _ w2)
  refine wpAny_call (codeAny_mono (g_run G q hr I2 (hb.to s2 [] ws I2.kIn n2) r2 w2) ?_)
  intro r s3 z
  match r, z with
  | .ok (.ret u), z => exact z
end

/-! ### heaps: what grows alone -/
theorem same_new {H : Hp} {p : Addr} (h : H p = none) (o : HO) : Same H (upd H p o) := fun b u q => by
  rw [upd_ne (ne_of_none q h)]
  exact q
theorem _root_.L2.Same.sqt {K : PySem.W.Frag} {H H' : Hp} {a : Addr} {xs : List V} (e : Same H H') (h : SqT K H a xs) : SqT K H' a xs := by
  rcases h with (h | ⟨o, h⟩) | h
  · exact .inl (.inl (e _ _ h))
  · exact .inl (.inr ⟨o, e _ _ h⟩)
  · exact .inr h
/-- written after what was there: kept too -/
theorem same_upd2 {H H' : Hp} {p : Addr} {o : HO} (e : Same H H') (h : H p = none) : Same H (upd H' p o) := fun b u q => by
  rw [upd_ne (ne_of_none q h)]
  exact e b u q

/-! ### the forms of comprehensions -/
/-- what a comprehension's list has come to: all else has only grown -/
def Lc (H1 : Hp) (D : Addr) (xs : Nat → List V) (i : Nat) (H : Hp) : Prop := Same H1 H ∧ H D = some (.lst (xs i))
theorem lc_start {H1 : Hp} {D : Addr} {xs : Nat → List V} (nD : H1 D = none) (h0 : xs 0 = []) : Lc H1 D xs 0 (upd H1 D (.lst [])) :=
  ⟨same_new nD _, by rw [upd_same, h0]⟩
theorem lc_leaf {H1 H4 : Hp} {D : Addr} {xs : Nat → List V} {i : Nat} {y : V} (nD : H1 D = none) (s : Same H1 H4) (e : H4 D = some (.lst (xs i)))
    (hl : (xs i).length ≤ 100000) (hy : xs (i + 1) = xs i ++ [y]) :
    ∃ acc, H4 D = some (.lst acc) ∧ acc.length < sizeLine ∧ Lc H1 D xs (i + 1) (upd H4 D (.lst (acc ++ [y]))) :=
  ⟨xs i, e, Nat.lt_of_le_of_lt hl (by decide), same_upd2 s nD, by rw [upd_same, hy]⟩
theorem lc_skip {H1 H3 : Hp} {D : Addr} {xs : Nat → List V} {i : Nat} (s : Same H1 H3) (e : H3 D = some (.lst (xs i))) (hy : xs (i + 1) = xs i) :
    Lc H1 D xs (i + 1) H3 := ⟨s, by rw [hy]; exact e⟩
theorem Lc.next {H1 H H' : Hp} {D : Addr} {xs : Nat → List V} {i : Nat} (h : Lc H1 D xs i H) (s : Same H H') : Lc H1 D xs i H' := ⟨h.1.trans s, s _ _ h.2⟩
/-- over zip of two tuples of one length -/
theorem lc_zipT {K : PySem.W.Frag} {a b : Addr} {xs ys : List V} {g : TG} {tt : TT} {te : TE} {vs : List Nat} {σ : L2.St} {H1 : Hp} {D : Addr} {Qd : Hp → Prop} (hl : xs.length = ys.length) (Pv : Nat → Hp → Prop) (h0 : Pv 0 (upd H1 D (.lst [])))
    (hq : ∀ i H, Pv i H → SqT K H a xs ∧ SqT K H b ys)
    (hs : ∀ (i : Nat) (x y : V) (T : Addr) (H : Hp), xs[i]? = some x → ys[i]? = some y → Pv i H → H T = none → g (.ref T) (wipe σ vs) (upd H T (.tup [x, y])) fun σ2 H2 => wipe σ2 vs = wipe σ vs ∧ tt σ2 H2 fun b H3 =>
      if b = true then te σ2 H3 fun y H4 => ∃ acc, H4 D = some (.lst acc) ∧ acc.length < sizeLine ∧ Pv (i + 1) (upd H4 D (.lst (acc ++ [y]))) else Pv (i + 1) H3)
    (hd : ∀ H, Pv xs.length H → Qd H) :
    ∃ W : Nat → Nat → Hp → Prop, (∃ m, W 0 m (upd H1 D (.lst []))) ∧ ∀ i m H, W i m H →
      ((ItzT K a b).stop i H ∧ Qd H) ∨ ((ItzT K a b).go i H ∧ ∃ Nx : Hp → Prop, (∀ H', Nx H' → ∃ m', m' < m ∧ W (i + 1) m' H') ∧ ∀ x H', (ItzT K a b).yld i H x H' → g x (wipe σ vs) H' fun σ2 H2 => wipe σ2 vs = wipe σ vs ∧ tt σ2 H2 fun b H3 =>
        if b = true then te σ2 H3 fun y H4 => ∃ acc, H4 D = some (.lst acc) ∧ acc.length < sizeLine ∧ Nx (upd H4 D (.lst (acc ++ [y]))) else Nx H3) := by
  refine ⟨fun i m H => m = xs.length - i ∧ i ≤ xs.length ∧ Pv i H, ⟨xs.length, rfl, Nat.zero_le _, h0⟩, ?_⟩
  rintro i m H ⟨em, hi, p⟩
  obtain ⟨qx, qy⟩ := hq i H p
  rcases Nat.lt_or_ge i xs.length with hlt | hge
  · have hx : xs[i]? = some xs[i] := List.getElem?_eq_getElem hlt
    have hy : ys[i]? = some (ys[i]'(hl ▸ hlt)) := List.getElem?_eq_getElem (hl ▸ hlt)
    refine .inr ⟨⟨xs, ys, _, _, qx, qy, hx, hy⟩, Pv (i + 1), fun H' p' => ⟨xs.length - (i + 1), by omega, rfl, hlt, p'⟩, ?_⟩
    rintro v H' ⟨T, x', y', rfl, hT, rfl, f1, f2⟩
    exact hs i x' y' T H (f1 xs qx) (f2 ys qy) p hT
  · obtain rfl : i = xs.length := by omega
    exact .inl ⟨⟨xs, ys, qx, qy, .inl (Nat.le_refl _)⟩, hd H p⟩
end Kw
/-! rules by the written part's name: within comprehensions -/
namespace Kw
open PySem PySem.Spec PyProof.Rows L2 RZ StX SrtO
section
variable {X : Cx} {K : PySem.W.Frag}
theorem cr_sumK (hc : X.calm = true := by rfl) (hK : X.K = K := by rfl) : CallR X (.builtin "sum") (rSum K) := hK ▸ cr_sum hc
theorem cr_allK (hc : X.calm = true := by rfl) (hK : X.K = K := by rfl) : CallR X (.builtin "all") (rAll K) := hK ▸ cr_all hc
theorem cr_anyK (hc : X.calm = true := by rfl) (hK : X.K = K := by rfl) : CallR X (.builtin "any") (rAny K) := hK ▸ cr_any hc
def rLenS (K : PySem.W.Frag) : List V → Hp → VK → Prop := fun xs H Q => ∃ p ys, xs = [.ref p] ∧ (SqL K H p ys ∨ SqT K H p ys) ∧ Q (.int ys.length) H
theorem call_lenK (hK : X.K = K := by rfl) : CallR X (.builtin "len") (rLenS K) := by
  subst hK
  exact call_len_seq
def rTupOf (K : PySem.W.Frag) : List V → Hp → VK → Prop := fun xs H Q => ∃ p ys, xs = [.ref p] ∧ ((SqL K H p ys ∧ ∀ l, H l = none → Q (.ref l) (upd H l (.tup ys))) ∨ (SqT K H p ys ∧ Q (.ref p) H))
theorem call_tupleK (hK : X.K = K := by rfl) : CallR X (.type "tuple") (rTupOf K) := by
  subst hK
  exact call_tuple_of
def rLstOf (K : PySem.W.Frag) : List V → Hp → VK → Prop := fun xs H Q => ∃ p ys, xs = [.ref p] ∧ (SqL K H p ys ∨ SqT K H p ys) ∧ ∀ l, H l = none → Q (.ref l) (upd H l (.lst ys))
theorem call_listK (hK : X.K = K := by rfl) : CallR X (.type "list") (rLstOf K) := by
  subst hK
  exact call_list_of
theorem cr_sortedIK (hK : X.K = K := by rfl) : CallR X (.builtin "sorted") (rSortedI K) := hK ▸ cr_sortedI
theorem pi_tupK {tg l : Expr} {tl : TE} (hl : PE X l tl) (hK : X.K = K := by rfl) : PI X tg l (iTup K tl) := hK ▸ pi_tup hl
theorem pi_listK {tg l : Expr} {tl : TE} (hl : PE X l tl) (hK : X.K = K := by rfl) : PI X tg l (iList K tl) := hK ▸ pi_list hl
theorem sl_listK (hK : X.K = K := by rfl) : SlR X (rSlL K) := hK ▸ sl_list
theorem op_inK (hK : X.K = K := by rfl) : OpR X (compareOp .In) (rIn K false) := hK ▸ op_in_seq
theorem op_notInK (hK : X.K = K := by rfl) : OpR X (compareOp .NotIn) (rIn K true) := hK ▸ op_notIn_seq
theorem call_isiK (hK : X.K = K := by rfl) : CallR X (.builtin "isinstance") (rIsi K) := hK ▸ call_isi
theorem op_eqDK (hu : X.A.units + 64 < cLine) (hK : X.K = K := by rfl) : OpR X (compareOp .Eq) (rEqD K) := hK ▸ op_eqD hu
theorem op_neDK (hu : X.A.units + 64 < cLine) (hK : X.K = K := by rfl) : OpR X (compareOp .NotEq) (rNeD K) := hK ▸ op_neD hu
theorem call_reprDK (q : Quiet X.A) (hu : X.A.units + 64 < cLine) (hK : X.K = K := by rfl) : CallR X (.builtin "repr") (rRepr K) := hK ▸ call_reprD q hu
end
end Kw
/-! enumerate of a tuple -/
namespace Kw
open PySem PySem.Spec PyProof.Rows L2
set_option maxHeartbeats 1000000 in
theorem meets_enum_new {v : Value} {o : Obj} {H : Heap → Prop} (B : Begins v o H) :
    Meets (Builtin.«enumerate.__new__» ⟨[.type "enumerate", v], []⟩) (fun _ R s => H s.heap ∧
      R (.ok (.ret (.ref (s.heap.push o).objs.size))) { s with heap := (s.heap.push o).push { cls := .type "enumerate", data := .fields #[.none, .bool false, .ref s.heap.objs.size, rawInt 0, .none, .none] } }) :=
  .of_wp fun prog w A R s h => by
    obtain ⟨hp, g, d, tk, os⟩ := s
    obtain ⟨h1, h⟩ := h
    have hsub := sub_enumerate
    have q1 : ∀ {A' : Around} {E : Value → Shared → Prop} {Q : Value → Shared → Prop}, Q (.ref hp.objs.size) ⟨hp.push o, g, d, tk, os⟩ → wpAny (model prog w) A' (pyIter v) Q E ⟨hp, g, d, tk, os⟩ :=
      fun q => B.iter prog w _ _ ⟨hp, g, d, tk, os⟩ _ h1 q
    wp_walk using q1
    refine wpAny_stack_any fun st => wpAny_pure ?_
    split
    · rename_i c _ _ _ _ _
      cases (c == Value.type "enumerate")
      · wp_walk using q1
        exact ⟨_, rfl, h⟩
      · wp_walk using q1
        exact ⟨_, rfl, h⟩
    · wp_walk using q1
      exact ⟨_, rfl, h⟩
section
variable {prog : Program} {w : World} {A : Around} {E : Value → Shared → Prop} {s : Shared}
theorem call_enum_new {v : Value} {o : Obj} {H : Heap → Prop} {Q : Value → Shared → Prop} (B : Begins v o H) (h1 : H s.heap)
    (h : ∀ h', IsEnum h' (s.heap.objs.size + 1) s.heap.objs.size 0 .none → h'.get? s.heap.objs.size = some o → h'.objs.size = s.heap.objs.size + 2 →
      (∀ b o, s.heap.get? b = some o → h'.get? b = some o) → Q (.ref (s.heap.objs.size + 1)) { s with heap := h' }) :
    wpAny (model prog w) A (call (.type "enumerate") [v]) Q E s := by
  refine callType_new F.called_enumerate (by decide) (F.typeCall_enumerate_1 _) (F.newCall_enumerate_1 _) (fun obj => F.args_object_init_2 obj _) F.entry_enumerate_new
    (meets_enum_new B) ⟨h1, ?_⟩
  have hz : (s.heap.push o).objs.size = s.heap.objs.size + 1 := Heap.size_push ..
  show _ ∧ _
  rw [hz]
  have he : IsEnum ((s.heap.push o).push { cls := .type "enumerate", data := .fields #[.none, .bool false, .ref s.heap.objs.size, rawInt 0, .none, .none] }) (s.heap.objs.size + 1) s.heap.objs.size 0 .none := by
    have := Heap.get?_push_size (s.heap.push o) (o := { cls := .type "enumerate", data := .fields #[.none, .bool false, .ref s.heap.objs.size, rawInt 0, .none, .none] }) rfl
    rw [hz] at this
    exact this
  refine ⟨⟨_, he, rfl⟩, h _ he (Heap.get?_push_of_some _ (Heap.get?_push_size _ B.free)) (by rw [Heap.size_push, hz]) fun b o x => Heap.get?_push_of_some _ (Heap.get?_push_of_some _ x)⟩
end
/-- the tuple at a, each item in a new pair behind its place -/
def IteT (K : PySem.W.Frag) (a : Addr) : It :=
  ⟨fun i H => ∃ (xs : List V) (x : V), SqT K H a xs ∧ xs[i]? = some x, fun i H v H' => ∃ T x, v = .ref T ∧ H T = none ∧ H' = upd H T (.tup [.int (i : Nat), x]) ∧ ∀ xs, SqT K H a xs → xs[i]? = some x, fun i H => ∃ xs : List V, SqT K H a xs ∧ xs.length ≤ i⟩
theorem turn_enumT {P : Program} {w : World} {K : PySem.W.Frag} {elts : List Expr} {kk : Nat} {tpos : Pos} (a e it : Addr) :
    Turn P w K (.Tuple elts kk tpos) (IteT K a) [e, it] e (fun i h => (∃ old, IsEnum h e it ((i : Nat) : Int) old) ∧ h.IsTupleIter it a i ∧ e ≠ it) where
  mem := by simp
  obj := fun i h st b hb => by
    obtain ⟨⟨old, he⟩, ⟨o, ho, hc, hd⟩, _⟩ := st
    have e' : b = e ∨ b = it := by simpa using hb
    rcases e' with z | z
    · rw [z]; exact ⟨_, he, fun v q => nomatch q⟩
    · rw [z]; exact ⟨o, ho, fun v q => by rw [hd] at q; cases q⟩
  keep := fun i h h' st k => let ⟨⟨old, he⟩, hi, hne⟩ := st; ⟨⟨old, k e (by simp) _ he⟩, hi.at fun o q => k it (by simp) o q, hne⟩
  item := by
    intro X hP hw hK hc i pins s σ H E I hf st hg
    subst hP hw hK
    obtain ⟨⟨old, he⟩, hit, hne⟩ := st
    obtain ⟨xs, x, hq, hx⟩ := hg
    obtain ⟨its, rv, p, hz⟩ := I.tuple hq
    have p : s.heap.IsTuple a its.toArray := p
    obtain ⟨u, hu, ru⟩ := rv.get hx
    have hel : e < s.heap.objs.size := Heap.lt_size he
    have hil : it < s.heap.objs.size := by obtain ⟨_, q, _⟩ := hit; exact Heap.lt_size q
    have hilt : i < its.toArray.size := by
      have := (List.getElem?_eq_some_iff.mp hu).1
      simpa using this
    have nat : a ≠ it := by
      rintro rfl
      obtain ⟨o, ho, hc1, hd1⟩ := hit
      obtain ⟨o', ho', hc2, _⟩ := p
      rw [ho] at ho'
      cases ho'
      rw [hc1] at hc2
      exact absurd hc2 (by decide)
    have nae : e ≠ a := by
      rintro rfl
      obtain ⟨o', ho', hc2, _⟩ := p
      have he' : s.heap.get? e = some _ := he
      rw [he'] at ho'
      cases ho'
      exact absurd (show Value.type "enumerate" = Value.type "tuple" from hc2) (by decide)
    have hd := I.ok.hd hc
    have D := Draws.tuple (prog := X.prog) (w := X.w) (A := X.A.in1) (show X.A.in1.handled = none from hd) it a nat its.toArray
    refine wpAny_pyNext_enum_itemD D he ⟨hit, p⟩ hilt hne (by simp [hne, nae]) fun y h' tk hP ho hst hT hsz hk => ?_
    have hit' := hst.1
    have ey : y = u := by
      have h1 : its.toArray[i]? = some u := by simpa using hu
      rw [h1] at hP
      exact (Option.some.inj hP).symm
    subst ey
    refine ⟨_, rfl, wpAny_letOwnedTupleGo_enum (s := { s with heap := h', toks := tk + 1 }) ho fun h'' he' sb => ?_⟩
    have hT2 : h''.get? s.heap.objs.size = some { cls := .type "tuple", data := .seq #[.int i tk, y] } := (sb.2 _ (Nat.ne_of_gt hel)).trans hT
    have new : ObjOk X.prog X.w (upd H s.heap.objs.size (.tup [.int (i : Nat), x])) h'' s.heap.objs.size (.tup [.int (i : Nat), x]) :=
      ⟨by show 2 ≤ sizeLine; decide, [.int i tk, y], .cons ⟨_, rfl⟩ (.cons ru .nil), ⟨_, hT2, rfl, _, rfl⟩⟩
    have I1 : Inv X pins σ (upd H s.heap.objs.size (.tup [.int (i : Nat), x])) { s with heap := h'', toks := tk + 1 } :=
      I.turnedNew (ch := [e, it]) (fun b ob hb q => (sb.2 b (fun z => hb (by simp [z]))).trans (hk b ob (fun z => hb (by simp [z])) (fun z => hb (by simp [z])) q)) hf (Nat.le_refl _) new
    refine ⟨.ref s.heap.objs.size, _, I1, rfl, ⟨_, x, rfl, I.hok.fresh (Nat.le_refl _), rfl, fun ys hy => by rw [I.tuple_inj hy hq]; exact hx⟩, ⟨⟨y, ?_⟩, hit'.at fun o q => (sb.2 it (Ne.symm hne)).trans q, hne⟩, fun b hb => ?_⟩
    · have e1 : ((i + 1 : Nat) : Int) = (i : Int) + 1 := by omega
      rw [e1]; exact he'
    · have hb' : b < s.heap.objs.size := by
        have e' : b = e ∨ b = it := by simpa using hb
        rcases e' with z | z
        · rw [z]; exact hel
        · rw [z]; exact hil
      rw [upd_ne (Nat.ne_of_lt hb')]
      exact (hf b hb).1
  done := by
    intro X hP hw hK hc i pins s σ H E I hf st hg
    subst hP hw hK
    obtain ⟨⟨old, he⟩, hit, hne⟩ := st
    obtain ⟨xs, hq, hx⟩ := hg
    obtain ⟨its, rv, p, hz⟩ := I.tuple hq
    have p : s.heap.IsTuple a its.toArray := p
    obtain ⟨f0, f1, f2, f3, f4, f5⟩ := hf it (by simp)
    have hl := rv.length
    have hd := I.ok.hd hc
    have hT : s.TypeIs (.ref e) "enumerate" := ⟨_, he, rfl⟩
    unfold pyNext
    refine wpAny_bind (wpAny_attempt (wpAny_callSpecial?_slot (name := Str.ofString "__next__") hT F.slot_enumerate_next
      (wpAny_call_entry F.slot_enumerate_next hT F.entry_enumerate_next ?_ (F.args_enumerate_next_1 _))))
    show wpAny _ _ (field (.ref e) 2 >>= _) _ _ _
    refine wpAny_bind (wpAny_field he rfl (x := .ref it) rfl ?_)
    refine wpAny_bind (wpAny_nextOf_tuple_end (A := X.A.in1) (show X.A.in1.handled = none from hd) hit p (by simp; omega) fun h' x he' hx' => ?_)
    obtain ⟨o, ho, hc⟩ := hx'
    refine wpAny_bind (wpAny_isInstance (T := "StopIteration") (b := true) ⟨o, ho, hc⟩ isSubtype_stop ?_)
    exact wpAny_pure ⟨rfl, I.turned (t' := s.toks) (fun b o hb q => he' b o hb q) f0 f1 f3 f4 f5⟩
  self := fun A i s Q E st h => let ⟨⟨_, he⟩, _⟩ := st; wpAny_pyIter_enum he h
def iEnumT (K : PySem.W.Frag) (ta : TA) : TI := fun σ H R => ta σ H fun vs H1 => ∃ a xs, vs = [.ref a] ∧ SqT K H1 a xs ∧ R (IteT K a) H1
theorem pi_enumT {X : Cx} {e : Expr} {ta : TA} {p pos tpos : Pos} {elts : List Expr} {kk : Nat} (hg : Gl X "enumerate") (hm : X.mg "enumerate" = none) (ha : PA X [e] ta) (hs : starEach [e] X.env = [(false, eval e X.env)] := by rfl) :
    PI X (.Tuple elts kk tpos) (.Call (.Name "enumerate" p) [e] [] pos) (iEnumT X.K ta) := by
  refine ⟨fun pins s σ H R I h => ?_⟩
  refine Call_ (ld_blt I hg hm boot_enumerate (PyProof.Rows.callWith_type1 (thn (ha.run pos pins s σ H _ I h) fun us s1 ⟨vs, H1, I1, r1, q1⟩ => ?_) hs rfl))
  obtain ⟨a, xs, ex, hq, q⟩ := q1
  subst ex
  cases r1 with
  | cons r rr =>
    cases rr
    cases r
    obtain ⟨its, rv, p', hz⟩ := I1.tuple hq
    refine call_enum_new (begins_tuple a its.toArray) p' fun h' he hit hsz hk => wpAny_pyIter_enum he ?_
    have I2 : Inv X pins σ H1 { s1 with heap := h' } := I1.kept (t' := s1.toks) hk
    refine ⟨s1.heap.objs.size + 1, [s1.heap.objs.size + 1, s1.heap.objs.size], _, _, H1, rfl, I2, turn_enumT a (s1.heap.objs.size + 1) s1.heap.objs.size, ⟨⟨.none, he⟩, ⟨_, hit, rfl, rfl⟩, Nat.succ_ne_self _⟩, fun b hb => ?_, q⟩
    have e' : b = s1.heap.objs.size + 1 ∨ b = s1.heap.objs.size := by simpa using hb
    have hle : s1.heap.objs.size ≤ b := by
      rcases e' with z | z
      · rw [z]; exact Nat.le_add_right _ _
      · rw [z]; exact Nat.le_refl _
    exact I1.fpOk hle (I1.hok.fresh hle)
theorem walk_enumT {K : PySem.W.Frag} {a : Addr} {xs : List V} : Walk (IteT K a) xs.length (fun H => SqT K H a xs) (YPair (fun i => some (.int (i : Nat))) (fun i => xs[i]?)) := by
  refine ⟨fun i H hi h => ⟨xs, xs[i], h, List.getElem?_eq_getElem hi⟩, fun H h => ⟨xs, h, Nat.le_refl _⟩, ?_⟩
  rintro i H v H' hi h ⟨T, x, rfl, hT, rfl, f⟩
  exact ⟨T, _, x, rfl, hT, rfl, rfl, f xs h⟩
end Kw
/-! texts of data, data compared -/
namespace Kw
open PySem PySem.Spec PyProof.Rows L2
/-- data whose text is told: n signs at most, k deep -/
structure Rp (n k : Nat) (d : PyData) : Prop where
  sh : d.showable = true
  nd : d.hasDict = false
  dp : d.depth ≤ k
  ln : d.shown.length ≤ n
  cl : d.canLay0 = true
theorem Rp.mono {n k n' k' : Nat} {d : PyData} (h : Rp n k d) (h1 : n ≤ n') (h2 : k ≤ k') : Rp n' k' d := ⟨h.sh, h.nd, Nat.le_trans h.dp h2, Nat.le_trans h.ln h1, h.cl⟩
theorem log2_lt {i : Int} (h : i.natAbs < 2 ^ 1900) : i.natAbs.log2 < 1920 := by
  by_cases e : i.natAbs = 0
  · rw [e]
    decide
  · exact Nat.lt_trans ((Nat.log2_lt e).mpr h) (by decide)
theorem Rp.int {i : Int} (h : i.natAbs < 2 ^ 1900) : Rp 1921 0 (.int i) := by
  have hl := log2_lt h
  refine ⟨by simp [PyData.showable, hl], by simp [PyData.hasDict], by simp [PyData.depth], ?_, by simp [PyData.canLay0]⟩
  simp only [PyData.shown]
  exact int_text_len_1921 hl
theorem Rp.bl (b : Bool) : Rp 5 0 (.bool b) := by
  cases b <;> refine ⟨rfl, rfl, Nat.le_refl _, by decide, rfl⟩
theorem Rp.non : Rp 5 0 .none := ⟨rfl, rfl, Nat.le_refl _, by decide, rfl⟩
theorem rp_showAll {n k : Nat} : ∀ {ds : List PyData}, (∀ d ∈ ds, Rp n k d) → PyData.showableAll ds = true ∧ PyData.hasDictAll ds = false ∧ PyData.depthAll ds ≤ k ∧ PyData.canLayAll0 ds = true ∧ piled (PyData.shownAll ds) ≤ ds.length * (n + 2) ∧ (PyData.shownAll ds).length = ds.length
  | [], _ => by simp [PyData.showableAll, PyData.hasDictAll, PyData.depthAll, PyData.canLayAll0, PyData.shownAll, piled]
  | d :: ds, h => by
    obtain ⟨h1, h2, h3, h4, h5, h6⟩ := rp_showAll fun x hx => h x (List.mem_cons_of_mem d hx)
    have r := h d List.mem_cons_self
    refine ⟨by simp [PyData.showableAll, h1, r.sh], by simp [PyData.hasDictAll, h2, r.nd], ?_, by simp [PyData.canLayAll0, h4, r.cl], ?_, by simp [PyData.shownAll, h6]⟩
    · simp only [PyData.depthAll]
      exact Nat.max_le.mpr ⟨r.dp, h3⟩
    · simp only [PyData.shownAll]
      rw [piled_cons, List.length_cons, Nat.add_mul, Nat.one_mul]
      have := r.ln
      omega
theorem tuple_len (ts : List Str) : (tupleText ts).length ≤ 3 + piled ts := by
  unfold tupleText
  rw [strLen_append, strLen_append]
  have e1 : ((("(" : String) : Str)).length = 1 := rfl
  have e3 : ((if ts.length == 1 then ",)" else ")" : String) : Str).length ≤ 2 := by
    split <;> decide
  by_cases c : ts = []
  · subst c
    decide
  · have := join_length_add ts c
    omega
theorem list_len : ∀ (ts : List Str), (listText ts).length ≤ 3 + piled ts := by
  have go : ∀ (ts : List Str) (k : Nat) (acc : Str), (textFrom k acc ts).length ≤ acc.length + piled ts := by
    intro ts
    induction ts with
    | nil =>
      intro k acc
      exact Nat.le_refl _
    | cons t r ih =>
      intro k acc
      have := ih (k + 1) (acc ++ (if k > 0 then ", " else "" : String) ++ t)
      rw [strLen_append, strLen_append] at this
      have e : ((if k > 0 then ", " else "" : String) : Str).length ≤ 2 := by split <;> decide
      show (textFrom (k + 1) (acc ++ (if k > 0 then ", " else "" : String) ++ t) r).length ≤ _
      rw [piled_cons]
      omega
  intro ts
  have h := go ts 0 "["
  show (textFrom 0 "[" ts ++ "]").length ≤ _
  rw [strLen_append]
  have e1 : ((("[" : String) : Str)).length = 1 := rfl
  have e2 : ((("]" : String) : Str)).length = 1 := rfl
  omega
theorem Rp.tup {n k m : Nat} {ds : List PyData} (h : ∀ d ∈ ds, Rp n k d) (hm : 3 + ds.length * (n + 2) ≤ m) : Rp m (k + 1) (.tuple ds) := by
  obtain ⟨h1, h2, h3, h4, h5, _⟩ := rp_showAll h
  refine ⟨by simp [PyData.showable, h1], by simp [PyData.hasDict, h2], ?_, ?_, by simp [PyData.canLay0, h4]⟩
  · simp only [PyData.depth]
    omega
  · simp only [PyData.shown]
    exact Nat.le_trans (tuple_len _) (by omega)
theorem Rp.lst {n k m : Nat} {ds : List PyData} (h : ∀ d ∈ ds, Rp n k d) (hm : 3 + ds.length * (n + 2) ≤ m) : Rp m (k + 1) (.list ds) := by
  obtain ⟨h1, h2, h3, h4, h5, _⟩ := rp_showAll h
  refine ⟨by simp [PyData.showable, h1], by simp [PyData.hasDict, h2], ?_, ?_, by simp [PyData.canLay0, h4]⟩
  · simp only [PyData.depth]
    omega
  · simp only [PyData.shown]
    exact Nat.le_trans (list_len _) (by omega)
theorem Rp.shaped {n k : Nat} {d : PyData} (h : Rp n k d) (hk : k ≤ 64) : SeqAt.shaped d = true := by
  unfold SeqAt.shaped
  rw [h.cl, decide_eq_true (Nat.le_trans h.dp hk)]
  rfl
theorem Rp.all {K : PySem.W.Frag} {H : Hp} {Q : VK} {n k : Nat} {a : Addr} {d : PyData} (h : Rp n k d) (hd : Dp K H (.ref a) d) (hn : n ≤ sizeLine) (hk : k ≤ 40) (q : Q (.str d.shown) H) : rRepr K [.ref a] H Q :=
  ⟨a, d, rfl, hd, h.sh, h.nd, Nat.le_trans h.dp hk, Nat.le_trans h.ln hn, q⟩
theorem dpAll_ints {K : PySem.W.Frag} {H : Hp} : ∀ cs : List Int, DpAll K H (cs.map V.int) (cs.map PyData.int)
  | [] => .nil
  | c :: r => .cons (.int c) (dpAll_ints r)
theorem eqvAll_ints : ∀ a b : List Int, PyData.eqvAll (a.map PyData.int) (b.map PyData.int) = decide (a = b)
  | [], [] => rfl
  | [], _ :: _ => rfl
  | _ :: _, [] => rfl
  | x :: a, y :: b => by
    simp only [List.map_cons, PyData.eqvAll, PyData.eqv, eqvAll_ints a b]
    by_cases e1 : x = y <;> by_cases e2 : a = b <;> simp [e1, e2]
mutual
/-- only Nones, ints, lists and tuples: no two unlike ones are equal -/
def NoBool : PyData → Bool
  | .none => true
  | .int _ => true
  | .tuple xs => NoBoolAll xs
  | .list xs => NoBoolAll xs
  | _ => false
def NoBoolAll : List PyData → Bool
  | [] => true
  | x :: xs => NoBool x && NoBoolAll xs
end
mutual
theorem eqv_iff : ∀ d e : PyData, NoBool d = true → (PyData.eqv d e = true ↔ (d = e ∨ (NoBool e = false ∧ PyData.eqv d e = true)))
  | .none, e, _ => by cases e <;> simp [PyData.eqv, NoBool]
  | .int i, e, _ => by cases e <;> simp [PyData.eqv, NoBool]
  | .tuple xs, e, h => by
    have h : NoBoolAll xs = true := by simpa [NoBool] using h
    cases e with
    | tuple ys =>
      have := eqvAll_iff xs ys h
      simp only [PyData.eqv, PyData.tuple.injEq, NoBool]
      exact this
    | _ => simp [PyData.eqv]
  | .list xs, e, h => by
    have h : NoBoolAll xs = true := by simpa [NoBool] using h
    cases e with
    | list ys =>
      have := eqvAll_iff xs ys h
      simp only [PyData.eqv, PyData.list.injEq, NoBool]
      exact this
    | _ => simp [PyData.eqv]
  | .bool _, _, h => by simp [NoBool] at h
  | .str _, _, h => by simp [NoBool] at h
  | .dict _, _, h => by simp [NoBool] at h
theorem eqvAll_iff : ∀ xs ys : List PyData, NoBoolAll xs = true → (PyData.eqvAll xs ys = true ↔ (xs = ys ∨ (NoBoolAll ys = false ∧ PyData.eqvAll xs ys = true)))
  | [], [], _ => by simp [PyData.eqvAll]
  | [], _ :: _, _ => by simp [PyData.eqvAll]
  | _ :: _, [], _ => by simp [PyData.eqvAll]
  | x :: xs, y :: ys, h => by
    have h : NoBool x = true ∧ NoBoolAll xs = true := by simpa [NoBoolAll] using h
    have i1 := eqv_iff x y h.1
    have i2 := eqvAll_iff xs ys h.2
    simp only [PyData.eqvAll, NoBoolAll, Bool.and_eq_true, List.cons.injEq, Bool.and_eq_false_iff]
    constructor
    · rintro ⟨a, b⟩
      rcases i1.mp a with e1 | e1
      · rcases i2.mp b with e2 | e2
        · exact .inl ⟨e1, e2⟩
        · exact .inr ⟨.inr e2.1, a, b⟩
      · exact .inr ⟨.inl e1.1, a, b⟩
    · rintro (⟨e1, e2⟩ | ⟨_, h⟩)
      · exact ⟨i1.mpr (.inl e1), i2.mpr (.inl e2)⟩
      · exact h
end
theorem eqv_eq {d e : PyData} (h : NoBool d = true) (h' : NoBool e = true) : PyData.eqv d e = true ↔ d = e := by
  have := eqv_iff d e h
  rw [h'] at this
  simpa using this
theorem noBool_ints : ∀ cs : List Int, NoBoolAll (cs.map PyData.int) = true
  | [] => rfl
  | c :: r => by
    simp only [List.map_cons, NoBoolAll, NoBool, noBool_ints r, Bool.and_self]
/-- a stripe as data -/
def strD (m : Nat) (cs : List Int) (r : Int) : PyData := .tuple [.int m, .tuple (cs.map PyData.int), .int r]
theorem strD_noBool (m : Nat) (cs : List Int) (r : Int) : NoBool (strD m cs r) = true := by
  simp [strD, NoBool, NoBoolAll, noBool_ints]
theorem strD_inj {m n : Nat} {cs ds : List Int} {r s : Int} : strD m cs r = strD n ds s ↔ m = n ∧ cs = ds ∧ r = s := by
  have inj : ∀ a b : List Int, a.map PyData.int = b.map PyData.int ↔ a = b := fun a b => ⟨fun h => (List.map_inj_right (fun _ _ e => PyData.int.inj e)).mp h, fun h => by rw [h]⟩
  simp only [strD, PyData.tuple.injEq, List.cons.injEq, PyData.int.injEq, inj]
  constructor
  · rintro ⟨h1, h2, h3, _⟩
    exact ⟨Int.ofNat.inj h1, h2, h3⟩
  · rintro ⟨rfl, rfl, rfl⟩
    exact ⟨rfl, rfl, rfl, trivial⟩
theorem rp_ints {cs : List Int} (hl : cs.length ≤ 4) (hb : ∀ c ∈ cs, c.natAbs < 2 ^ 1900) : Rp 7700 1 (.tuple (cs.map PyData.int)) := by
  refine Rp.tup (n := 1921) (k := 0) (fun d hd => ?_) ?_
  · obtain ⟨c, hc, rfl⟩ := List.mem_map.mp hd
    exact Rp.int (hb c hc)
  · rw [List.length_map]
    omega
theorem rp_str {m : Nat} {cs : List Int} {r : Int} (hl : cs.length ≤ 4) (hm : m < 2 ^ 1900) (hb : ∀ c ∈ cs, c.natAbs < 2 ^ 1900) (hr : r.natAbs < 2 ^ 1900) : Rp 24000 2 (strD m cs r) := by
  unfold strD
  refine Rp.tup (n := 7700) (k := 1) (fun d hd => ?_) (by show 3 + 3 * 7702 ≤ 24000; decide)
  simp only [List.mem_cons, List.not_mem_nil, or_false] at hd
  rcases hd with rfl | rfl | rfl
  · exact (Rp.int (by omega)).mono (by decide) (by decide)
  · exact rp_ints hl hb
  · exact (Rp.int hr).mono (by decide) (by decide)
end Kw
/-! repr of any data, leaves too -/
namespace Kw
open PySem PySem.Spec PyProof.Rows L2 RZ StX SrtO
def rReprA (K : PySem.W.Frag) : List V → Hp → VK → Prop := fun xs H Q => ∃ (x : V) (d : PyData), xs = [x] ∧ Dp K H x d ∧
  d.showable = true ∧ d.hasDict = false ∧ d.depth ≤ 40 ∧ d.shown.length ≤ sizeLine ∧ Q (.str d.shown) H
section
variable {X : Cx} {K : PySem.W.Frag}
theorem call_reprA0 (q : Quiet X.A) (hu : X.A.units + 64 < cLine) : CallR X (.builtin "repr") (rReprA X.K) := by
  intro pins s σ H xs us Q I r h
  obtain ⟨x, d, rfl, hd, h1, h2, h3, h4, w1⟩ := h
  obtain ⟨u, rfl, ru⟩ := vals1 r
  cases hd with
  | non =>
    obtain rfl : u = .none := by cases ru; rfl
    exact PySem.P.repr_of_none ⟨.str _, H, I.tok _, ⟨_, rfl⟩, w1⟩
  | bl b =>
    obtain rfl : u = .bool b := by cases ru; rfl
    refine PySem.P.repr_of_bool ⟨.str (PyData.bool b).shown, H, I.tok _, ⟨s.toks, ?_⟩, w1⟩
    cases b <;> rfl
  | int i =>
    obtain ⟨t, rfl⟩ := ru
    exact PySem.P.repr_of_int (by simpa [PyData.showable] using h1) ⟨.str _, H, I.tok _, ⟨_, rfl⟩, w1⟩
  | str y =>
    obtain ⟨t, rfl⟩ := ru
    exact PySem.P.repr_of_str ⟨.str _, H, I.tok _, ⟨_, rfl⟩, w1⟩ h4
  | lst h5 h6 =>
    exact call_reprD q hu pins s σ H _ _ Q I r ⟨_, _, rfl, .lst h5 h6, h1, h2, h3, h4, w1⟩
  | tup h5 h6 =>
    exact call_reprD q hu pins s σ H _ _ Q I r ⟨_, _, rfl, .tup h5 h6, h1, h2, h3, h4, w1⟩
theorem call_reprA (q : Quiet X.A) (hu : X.A.units + 64 < cLine) (hK : X.K = K := by rfl) : CallR X (.builtin "repr") (rReprA K) := hK ▸ call_reprA0 q hu
end
theorem Rp.any {K : PySem.W.Frag} {H : Hp} {Q : VK} {n k : Nat} {x : V} {d : PyData} (h : Rp n k d) (hd : Dp K H x d) (hn : n ≤ sizeLine) (hk : k ≤ 40) (q : Q (.str d.shown) H) : rReprA K [x] H Q :=
  ⟨x, d, rfl, hd, h.sh, h.nd, Nat.le_trans h.dp hk, Nat.le_trans h.ln hn, q⟩
end Kw
/-! dicts whose keys are nested tuples -/
namespace Kw
open PySem PySem.Spec PyProof.Rows L2 RZ StX SrtO
abbrev NK := PySem.NestedKey
/-- entries: the key, the tuple that was stored as it, the value -/
abbrev Ents := List (NK × Addr × V)
def EntR (p : NK × Addr × V) (q : NK × Addr × Value) : Prop := p.1 = q.1 ∧ p.2.1 = q.2.1 ∧ RelV p.2.2 q.2.2
def entN (w : World) (x : NK × Addr × Value) : DictEntry := ⟨x.1.hash w, .ref x.2.1, x.2.2⟩
def RawN (w : World) (h : Heap) (a : Addr) (ks : Ents) : Prop :=
  ks.length ≤ sizeLine ∧ (a == sysModules) = false ∧ ∃ xs, Paired EntR ks xs ∧ ∃ o es ep, h.get? a = some o ∧ o.ExactDict ∧ o.data = .dict es ep ∧ es.toList = xs.map (entN w) ∧ (xs.map (·.1)).Nodup
/-- the dict at a -/
def DicN (w : World) (a : Addr) (ks : Ents) : HO := .ext fun h => RawN w h a ks
theorem dicN_ok {P : Program} {w : World} {H : Hp} {h : Heap} {a : Addr} {ks : Ents} (x : RawN w h a ks) : ObjOk P w H h a (DicN w a ks) := by
  refine ⟨x, ?_, fun h1 h2 y k => ?_⟩
  · obtain ⟨_, _, xs, _, o, es, ep, ho, _⟩ := x
    exact ⟨o, ho⟩
  · obtain ⟨z, hd, xs, r, o, es, ep, ho, q⟩ := y
    exact ⟨z, hd, xs, r, o, es, ep, k o ho, q⟩
/-- the keys stand as tuples -/
structure KeyN (K : PySem.W.Frag) (H : Hp) (k : NK) (b : Addr) : Prop where
  dp : Dp K H (.ref b) k.data
  le : k.depth ≤ 8
def KeysN (K : PySem.W.Frag) (H : Hp) (ks : Ents) : Prop := ∀ p ∈ ks, KeyN K H p.1 p.2.1
def valN (ks : Ents) (k : NK) : Option V := (ks.find? fun p => decide (p.1 = k)).map (·.2.2)
def putN (ks : Ents) (k : NK) (b : Addr) (v : V) : Ents :=
  if (valN ks k).isSome then ks.map (fun p => if p.1 = k then (p.1, p.2.1, v) else p) else ks ++ [(k, b, v)]
theorem valN_cons_eq {p : NK × Addr × V} {ks : Ents} {k : NK} (e : p.1 = k) : valN (p :: ks) k = some p.2.2 := by
  unfold valN
  rw [List.find?_cons, decide_eq_true e]
  rfl
theorem valN_cons_ne {p : NK × Addr × V} {ks : Ents} {k : NK} (e : ¬ p.1 = k) : valN (p :: ks) k = valN ks k := by
  unfold valN
  rw [List.find?_cons, decide_eq_false e]
section
variable {X : Cx} {pins : List (Addr × Obj)} {σ : L2.St} {H : Hp} {s : Shared}
mutual
theorem Dp.nested (I : Inv X pins σ H s) : ∀ (k : NK) (v : V) (u : Value), Dp X.K H v k.data → RelV v u → NestedIs s.heap k u
  | .none, _, _, h, r => by
    cases (show Dp X.K H _ .none from h)
    cases r
    exact .none
  | .num i, _, _, h, r => by
    cases (show Dp X.K H _ (.int i) from h)
    obtain ⟨t, rfl⟩ := r
    exact .int i t
  | .text x, _, _, h, r => by
    cases (show Dp X.K H _ (.str x) from h)
    obtain ⟨t, rfl⟩ := r
    exact .text x t
  | .tup ks, _, _, h, r => by
    have h' : Dp X.K H _ (.tuple (NestedKey.datas ks)) := h
    cases h' with
    | tup hs ha =>
      cases r
      obtain ⟨its, rv, ⟨o, ho, hc, n, hd⟩, _⟩ := I.tuple hs
      exact .tup ho hc hd (by simpa using Dp.nestedAll I ks _ its ha rv)
theorem Dp.nestedAll (I : Inv X pins σ H s) : ∀ (ks : List NK) (vs : List V) (us : List Value), DpAll X.K H vs (NestedKey.datas ks) → Vals vs us → NestedAll s.heap ks us
  | [], _, _, h, r => by
    cases (show DpAll X.K H _ [] from h)
    cases r
    exact .nil
  | k :: ks, _, _, h, r => by
    have h' : DpAll X.K H _ (k.data :: NestedKey.datas ks) := h
    cases h' with
    | cons h1 h2 =>
      cases r with
      | cons r1 r2 => exact .cons (Dp.nested I k _ _ h1 r1) (Dp.nestedAll I ks _ _ h2 r2)
end
theorem KeyN.is (I : Inv X pins σ H s) {k : NK} {b : Addr} (h : KeyN X.K H k b) : (nestedKind X.prog X.w).is s.heap k b := ⟨Dp.nested I k _ _ h.dp rfl, h.le⟩
theorem RawN.dict {a : Addr} {ks : Ents} (I : Inv X pins σ H s) (x : RawN X.w s.heap a ks) (hk : KeysN X.K H ks) :
    ks.length ≤ sizeLine ∧ (a == sysModules) = false ∧ ∃ xs, Paired EntR ks xs ∧ s.heap.DictOfH (nestedKind X.prog X.w) a xs := by
  obtain ⟨z, hd, xs, r, o, es, ep, h1, h2, h3, h4, h5⟩ := x
  refine ⟨z, hd, xs, r, o, es, ep, h1, h2, h3, h4, fun y hy => ?_, h5⟩
  have all : ∀ {l : Ents} {m : List (NK × Addr × Value)}, Paired EntR l m → (∀ p ∈ l, KeyN X.K H p.1 p.2.1) → ∀ y ∈ m, (nestedKind X.prog X.w).is s.heap y.1 y.2.1 := by
    intro l m q
    induction q with
    | nil => intro _ y hy; exact nomatch hy
    | @cons p q ps qs hq t ih =>
      intro hl y hy
      rcases List.mem_cons.mp hy with e | hy
      · subst e
        obtain ⟨e1, e2, _⟩ := hq
        rw [← e1, ← e2]
        exact (hl p List.mem_cons_self).is I
      · exact ih (fun p hp => hl p (List.mem_cons_of_mem _ hp)) y hy
  exact all r hk y hy
theorem rawN_rd {a : Addr} {ks : Ents} (I : Inv X pins σ H s) (e : Rd H a (DicN X.w a ks)) : RawN X.w s.heap a ks := (show ObjOk X.prog X.w H s.heap a (DicN X.w a ks) from e.ok I.hok).1
theorem entR_val {ks : Ents} {xs : List (NK × Addr × Value)} (r : Paired EntR ks xs) (k : NK) : RelO (valN ks k) ((atKey xs k).map (·.2)) := by
  induction r with
  | nil => exact True.intro
  | @cons p q ps qs h t ih =>
    obtain ⟨h1, _, h2⟩ := h
    by_cases e : p.1 = k
    · have e' : q.1 = k := h1.symm.trans e
      have b : atKey (q :: qs) k = some q.2 := by simp [atKey, List.find?_cons, e']
      rw [valN_cons_eq e, b]
      exact h2
    · have e' : ¬ q.1 = k := fun z => e (h1.trans z)
      have b : atKey (q :: qs) k = atKey qs k := by simp [atKey, List.find?_cons, e']
      rw [valN_cons_ne e, b]
      exact ih
theorem entR_repl {ks : Ents} {xs : List (NK × Addr × Value)} (r : Paired EntR ks xs) (k : NK) {y : V} {u : Value} (ry : RelV y u) :
    Paired EntR (ks.map fun p => if p.1 = k then (p.1, p.2.1, y) else p) (xs.map (putAt k u)) := by
  induction r with
  | nil => exact .nil
  | @cons p q ps qs h t ih =>
    rw [List.map_cons, List.map_cons]
    refine .cons ?_ ih
    obtain ⟨h1, h2, h3⟩ := h
    unfold putAt
    by_cases e : p.1 = k
    · rw [if_pos e, if_pos (h1.symm.trans e)]
      exact ⟨h1, h2, ry⟩
    · rw [if_neg e, if_neg (fun z => e (h1.trans z))]
      exact ⟨h1, h2, h3⟩
theorem entR_put {ks : Ents} {xs : List (NK × Addr × Value)} (r : Paired EntR ks xs) (k : NK) (b : Addr) {y : V} {u : Value} (ry : RelV y u) : Paired EntR (putN ks k b y) (storedH xs k b u) := by
  have e : (valN ks k).isSome = (atKey xs k).isSome := by
    rw [(entR_val r k).isSome_eq, Option.isSome_map]
  unfold putN storedH
  rw [e]
  by_cases q : (atKey xs k).isSome = true
  · rw [if_pos q, if_pos q]
    exact entR_repl r k ry
  · rw [if_neg q, if_neg q]
    exact Paired.snoc r ⟨rfl, rfl, ry⟩
theorem putN_len (ks : Ents) (k : NK) (b : Addr) (v : V) : (putN ks k b v).length ≤ ks.length + 1 := by
  unfold putN
  split
  · rw [List.length_map]
    omega
  · rw [List.length_append]
    simp
theorem KeysN.put {K : PySem.W.Frag} {ks : Ents} {k : NK} {b : Addr} {v : V} (h : KeysN K H ks) (hk : KeyN K H k b) : KeysN K H (putN ks k b v) := by
  unfold putN
  split
  · intro p hp
    obtain ⟨q, hq, rfl⟩ := List.mem_map.mp hp
    split
    · exact h q hq
    · exact h q hq
  · intro p hp
    rcases List.mem_append.mp hp with z | z
    · exact h p z
    · rw [List.mem_singleton.mp z]
      exact hk
end
section
variable {X : Cx} {w : World}
/-- the dict at a is as ks says, and its keys stand -/
structure DN (K : PySem.W.Frag) (w : World) (H : Hp) (a : Addr) (ks : Ents) : Prop where
  rd : Rd H a (DicN w a ks)
  ky : KeysN K H ks
/-! {} -/
def tDNewN (w : World) : TE := fun _ H Q => ∀ p, H p = none → Q (.ref p) (upd H p (DicN w p []))
theorem pe_dnewN {pos : Pos} (hw : X.w = w := by rfl) : PE X (.Dict [] [] pos) (tDNewN w) := by
  subst hw
  exact ⟨fun pins s σ H Q I h =>
    wpAny_Dict_empty ⟨.ref s.heap.objs.size, _, I.laid (a := s.heap.objs.size) (o := DicN X.w s.heap.objs.size []) (t' := s.toks) (fun _ _ q => Heap.get?_push_of_some _ q) (Nat.le_refl _)
      (dicN_ok ⟨Nat.zero_le _, by
        have := I.big
        simp only [beq_eq_false_iff_ne, ne_eq]
        intro z
        rw [z] at this
        exact Nat.lt_irrefl _ this, [], .nil, _, _, _, Heap.get?_push_size _ rfl, ⟨rfl, rfl, rfl⟩, rfl, rfl, List.nodup_nil⟩), rfl, h _ (I.hok.fresh (Nat.le_refl _))⟩⟩
/-! d[k] -/
def tDGetN (K : PySem.W.Frag) (w : World) (td ty : TE) : TE := fun σ H Q => td σ H fun x H1 => ty σ H1 fun y H2 => ∃ a b ks k v, x = .ref a ∧ y = .ref b ∧ DN K w H2 a ks ∧ KeyN K H2 k b ∧ valN ks k = some v ∧ Q v H2
theorem pe_dgetN {K : PySem.W.Frag} {o i : Expr} {pos : Pos} {td ty : TE} (hu : X.A.units + 64 < cLine) (ho : PE X o td) (hi : PE X i ty) (hs : NoSl i) (hw : X.w = w := by rfl) (hK : X.K = K := by rfl) : PE X (.Subscript o i pos) (tDGetN K w td ty) := by
  subst hw hK
  refine ⟨fun pins s σ H Q I h => ?_⟩
  refine subD_of PySem.F.slot_dict_getitem.lookup hs (thn (ho.run pins s σ H _ I h) fun ov s1 ⟨x, H1, I1, rx, q1⟩ => thn (hi.run pins s1 σ H1 _ I1 q1) fun iv s2 ⟨y, H2, I2, ry, a, b, ks, k, v, ex, ey, D, hk, hv, q2⟩ => ?_)
  subst ex ey
  obtain rfl : ov = Value.ref a := rx
  obtain rfl : iv = Value.ref b := ry
  obtain ⟨z, hd, xs, rel, dd⟩ := (rawN_rd I2 D.rd).dict I2 D.ky
  refine ⟨dd.typeIs, ?_⟩
  have rl := entR_val rel k
  rw [hv] at rl
  obtain ⟨u, hu', ru⟩ := RelO.some_of (v := v) rl
  obtain ⟨p, hp, hp2⟩ := Option.map_eq_some_iff.mp hu'
  refine wpAny_getItem_heap (show X.A.in1.units + 8 < cLine by have : X.A.in1.units = X.A.units + 1 := rfl; omega) (hk.is I2) dd hp ?_
  rw [hp2]
  exact ⟨v, H2, I2.tok _, ru, q2⟩
end
end Kw
/-! dicts whose keys are nested tuples: stores, membership, get, walks -/
namespace Kw
open PySem PySem.Spec PyProof.Rows L2 RZ StX SrtO
section
variable {X : Cx} {w : World} {K : PySem.W.Frag}
theorem room_in1 (hu : X.A.units + 64 < cLine) : X.A.in1.units + 8 < cLine := by
  have : X.A.in1.units = X.A.units + 1 := rfl
  omega
/-! d[k] = v -/
def rSetN (K : PySem.W.Frag) (w : World) : TSet := fun o i v H Q => ∃ a b ks k, o = .ref a ∧ i = .ref b ∧ H a = some (DicN w a ks) ∧ KeysN K H ks ∧ KeyN K H k b ∧ ks.length < sizeLine ∧ Q (upd H a (DicN w a (putN ks k b v)))
theorem set_dN (hu : X.A.units + 64 < cLine) (hw : X.w = w := by rfl) (hK : X.K = K := by rfl) : PSet X (rSetN K w) := by
  subst hw hK
  intro pins s σ H o i v ov iv u Q I ro ri rv h
  obtain ⟨a, b, ks, k, eo, ei, ha, hks, hk, hl, q⟩ := h
  subst eo ei
  obtain rfl : ov = Value.ref a := ro
  obtain rfl : iv = Value.ref b := ri
  obtain ⟨z, hd, xs, rel, dd⟩ := (rawN_rd I (.inl ha)).dict I hks
  have hz : xs.length ≤ sizeLine := by rw [← Paired.length rel]; exact z
  have hl2 : (putN ks k b v).length ≤ sizeLine := by have := putN_len ks k b v; omega
  refine wpAny_setItem_heap (hsz := hz) (room_in1 hu) (hk.is I) dd fun h' dd' hs => ⟨_, ?_, q⟩
  obtain ⟨q, es, ep, hq, h2, h3, h4, _, h5⟩ := dd'
  exact d_write I (by rw [ha]; exact True.intro) hs ⟨q, hq⟩ (dicN_ok ⟨hl2, hd, _, entR_put rel k b rv, q, es, ep, hq, h2, h3, h4, h5⟩)
/-! k in d, k not in d -/
def rInN (K : PySem.W.Frag) (w : World) (neg : Bool) : R2 := fun x y H Q => ∃ a b ks k, x = .ref b ∧ y = .ref a ∧ DN K w H a ks ∧ KeyN K H k b ∧ Q (.bl (if neg then !(valN ks k).isSome else (valN ks k).isSome)) H
theorem op_inN (hu : X.A.units + 64 < cLine) (hw : X.w = w := by rfl) (hK : X.K = K := by rfl) : OpR X (compareOp .In) (rInN K w false) := by
  subst hw hK
  intro pins s σ H x y v u Q I rx ry h
  obtain ⟨a, b, ks, k, ex, ey, D, hk, q⟩ := h
  subst ex ey
  obtain rfl : v = Value.ref b := rx
  obtain rfl : u = Value.ref a := ry
  obtain ⟨z, hd, xs, rel, dd⟩ := (rawN_rd I D.rd).dict I D.ky
  refine wpAny_in_heap (room_in1 hu) (hk.is I) hd dd ⟨_, H, I.tok _, ?_, q⟩
  have r := (entR_val rel k).isSome_eq
  rw [Option.isSome_map] at r
  rw [← r]
  rfl
theorem op_notInN (hu : X.A.units + 64 < cLine) (hw : X.w = w := by rfl) (hK : X.K = K := by rfl) : OpR X (compareOp .NotIn) (rInN K w true) := by
  subst hw hK
  intro pins s σ H x y v u Q I rx ry h
  obtain ⟨a, b, ks, k, ex, ey, D, hk, q⟩ := h
  subst ex ey
  obtain rfl : v = Value.ref b := rx
  obtain rfl : u = Value.ref a := ry
  obtain ⟨z, hd, xs, rel, dd⟩ := (rawN_rd I D.rd).dict I D.ky
  refine wpAny_notIn_heap (room_in1 hu) (hk.is I) hd dd ⟨_, H, I.tok _, ?_, q⟩
  have r := (entR_val rel k).isSome_eq
  rw [Option.isSome_map] at r
  rw [← r]
  rfl
/-! d.get(k, x), d.pop(k) -/
theorem rawN_ty {pins : List (Addr × Obj)} {σ : L2.St} {H : Hp} {s : Shared} {a : Addr} {ks : Ents} (I : Inv X pins σ H s) (e : Rd H a (DicN X.w a ks)) :
    s.TypeIs (.ref a) "dict" ∧ (∀ b, Value.ref a = .ref b → ∃ ob, s.heap.get? b = some ob ∧ ob.dict = none) ∧ (a == sysModules) = false := by
  obtain ⟨z, hd, xs, r, o, es, ep, h1, h2, _⟩ := rawN_rd I e
  refine ⟨⟨o, h1, h2.1⟩, fun b q => ?_, hd⟩
  cases q
  exact ⟨o, h1, h2.2.1⟩
def rGetN (K : PySem.W.Frag) (w : World) : V → List V → Hp → VK → Prop := fun x xs H Q => ∃ a b ks k z, x = .ref a ∧ xs = [.ref b, z] ∧ DN K w H a ks ∧ KeyN K H k b ∧ Q ((valN ks k).getD z) H
theorem mt_getN (hu : X.A.units + 64 < cLine) (hw : X.w = w := by rfl) (hK : X.K = K := by rfl) : MtR X "dict.get" (rGetN K w) := by
  subst hw hK
  intro pins s σ H x xs v us Q I rx rxs h
  obtain ⟨a, b, ks, k, z, ex, exs, D, hk, q⟩ := h
  subst ex exs
  obtain rfl : v = Value.ref a := rx
  obtain ⟨u1, u2, rfl, r1, r2⟩ := vals2 rxs
  obtain rfl : u1 = Value.ref b := r1
  obtain ⟨_, hd, ys, rel, dd⟩ := (rawN_rd I D.rd).dict I D.ky
  refine call_meetsIn PySem.F.slot_dict_get dd.typeIs PySem.F.entry_dict_get (PySem.F.args_dict_get_3 _ _ _) (meetsH_dict_get_default (nestedKind X.prog X.w) a b hd u2) ⟨room_in1 (X := X) hu, k, ys, hk.is I, dd, ?_⟩
  exact ⟨_, H, I.tok _, (entR_val rel k).getD r2, q⟩
/-! walks -/
theorem Inv.frzN {pins : List (Addr × Obj)} {σ : L2.St} {H : Hp} {s : Shared} {d : Addr} {o : Obj} {ks : Ents} (I : Inv X pins σ H s) (h : H d = some (.frz o (DicN X.w d ks))) :
    (d == sysModules) = false ∧ s.heap.get? d = some o ∧ o.ExactDict ∧ ∃ (es : Array DictEntry) (ep : Nat), o.data = .dict es ep ∧ es.size = ks.length ∧
      ∀ (i : Nat) (p : NK × Addr × V), ks[i]? = some p → ∃ (en : DictEntry), es[i]? = some en ∧ en.key = .ref p.2.1 ∧ RelV p.2.2 en.val := by
  obtain ⟨hd, x, _⟩ := I.hok d _ h
  obtain ⟨z, hs, xs, pr, o', es, ep, ho, hx, hdt, he, _⟩ := x
  rw [hd] at ho
  cases ho
  have sz : es.size = xs.length := by rw [← Array.length_toList, he, List.length_map]
  refine ⟨hs, hd, hx, es, ep, hdt, ?_, fun i p e => ?_⟩
  · have l2 : ks.length = xs.length := Paired.length pr
    omega
  · obtain ⟨b, hb, e1, e2, e3⟩ := paired_get pr e
    have q : es[i]? = (xs[i]?).map (entN X.w) := by rw [← Array.getElem?_toList, he, List.getElem?_map]
    rw [hb] at q
    exact ⟨_, q, by show Value.ref b.2.1 = _; rw [e2], e3⟩
/-- the keys of the locked dict: the stored tuples -/
def Itkn (w : World) (d : Addr) (o : Obj) (ks : Ents) : It :=
  ⟨fun i H => H d = some (.frz o (DicN w d ks)) ∧ i < ks.length, fun i H x H' => H' = H ∧ ∃ p, ks[i]? = some p ∧ x = .ref p.2.1, fun i H => H d = some (.frz o (DicN w d ks)) ∧ ks.length ≤ i⟩
/-- the pairs, each a new tuple -/
def Itin (w : World) (d : Addr) (o : Obj) (ks : Ents) : It :=
  ⟨fun i H => H d = some (.frz o (DicN w d ks)) ∧ i < ks.length, fun i H x H' => ∃ T p, ks[i]? = some p ∧ x = .ref T ∧ H T = none ∧ H' = upd H T (.tup [.ref p.2.1, p.2.2]), fun i H => H d = some (.frz o (DicN w d ks)) ∧ ks.length ≤ i⟩
section
variable {P : Program} {tg : Expr} {d : Addr} {o : Obj} {es : Array DictEntry} {ep : Nat}
theorem turn_keysN {ks : Ents} (it : Addr) (hod : o.data = .dict es ep) : Turn P w K tg (Itkn w d o ks) [it] it (fun i h => h.IsKeyIter it d i ks.length ep) where
  mem := by simp
  obj := fun i h st b hb => by
    have e : b = it := by simpa using hb
    subst e
    obtain ⟨oi, e, c, dd⟩ := st
    exact ⟨oi, e, fun v z => by rw [dd] at z; cases z⟩
  keep := fun i h h' st k => st.at fun oi e => k it (by simp) oi e
  item := by
    intro X hP hw hK hc i pins s σ H E I hf st hg
    subst hP hw hK
    obtain ⟨hd, hi⟩ := hg
    obtain ⟨f0, f1, f2, f3, f4, f5⟩ := hf it (by simp)
    obtain ⟨hs, hgd, hx, es', ep', hdt, hsz, ent⟩ := Inv.frzN I hd
    obtain ⟨rfl, rfl⟩ := dict_ep hod hdt
    obtain ⟨p, hp⟩ : ∃ p, ks[i]? = some p := ⟨ks[i], List.getElem?_eq_getElem hi⟩
    obtain ⟨en, hen, hkey, _⟩ := ent i p hp
    refine next_key_item st hgd hdt hsz hen fun h' st' sb => ?_
    have I1 : Inv X pins σ H { s with heap := h' } := I.turned (t' := s.toks) (fun b ob hb e => (sb.2 b hb).trans e) f0 f1 f3 f4 f5
    obtain ⟨oi, e, c, dd⟩ := id st'
    exact ⟨en.key, rfl, go_of (s := { s with heap := h' }) e c dd (by decide) ⟨.ref p.2.1, H, I1, hkey, ⟨rfl, p, hp, rfl⟩, st', fun b hb => (hf b hb).1⟩⟩
  done := by
    intro X hP hw hK hc i pins s σ H E I hf st hg
    subst hP hw hK
    obtain ⟨hd, hi⟩ := hg
    obtain ⟨f0, f1, f2, f3, f4, f5⟩ := hf it (by simp)
    obtain ⟨hs, hgd, hx, es', ep', hdt, hsz, ent⟩ := Inv.frzN I hd
    obtain ⟨rfl, rfl⟩ := dict_ep hod hdt
    exact next_key_end (I.ok.hd hc) st hgd hdt hsz hi fun h' eb => ⟨rfl, I.turned (t' := s.toks) (fun b ob hb e => eb b ob hb e) f0 f1 f3 f4 f5⟩
  self := fun A i s Q E st h => by
    refine wpAny_pyIter_slot st.typeIs F.slot_dict_keyiterator_iter (wpAny_call_entry F.slot_dict_keyiterator_iter st.typeIs F.entry_dict_keyiterator_iter ?_ (F.args_dict_keyiterator_iter_1 _))
    show wpAny _ _ (ret (.ref it)) _ _ s
    exact wpAny_pure ⟨_, rfl, "dict_keyiterator", _, st.typeIs, F.slot_dict_keyiterator_next.lookup, h⟩
def iKeysN (w : World) (td : TE) : TI := fun σ H R => td σ H fun x H1 => ∃ d o ks, x = .ref d ∧ H1 d = some (.frz o (DicN w d ks)) ∧ R (Itkn w d o ks) H1
theorem pi_keysN {e : Expr} {td : TE} (he : PE X e td) (hw : X.w = w := by rfl) : PI X tg e (iKeysN w td) := by
  subst hw
  refine ⟨fun pins s σ H R I h => ?_⟩
  refine thn (he.run pins s σ H _ I h) fun u s1 ⟨x, H1, I1, rx, d, o, ks, ex, hd, q⟩ => ?_
  subst ex
  obtain rfl : u = Value.ref d := rx
  obtain ⟨hs, hgd, hx, es, ep, hdt, hsz, ent⟩ := Inv.frzN I1 hd
  refine iter_keys hs hgd hx hdt (pi_one (tk := s1.toks) I1 _ (turn_keysN _ hdt) ⟨_, Heap.get?_push_size _ rfl, rfl, ?_⟩ q)
  rw [hsz] <;> rfl
theorem turn_itemsN {ks : Ents} {elts : List Expr} {kk : Nat} {tpos : Pos} (it : Addr) (hod : o.data = .dict es ep) :
    Turn P w K (.Tuple elts kk tpos) (Itin w d o ks) [it] it (fun i h => ∃ ok ov, IsItemIter h it d i ks.length ep ok ov) where
  mem := by simp
  obj := fun i h st b hb => by
    have e : b = it := by simpa using hb
    subst e
    obtain ⟨ok, ov, e⟩ := st
    exact ⟨_, e, fun v z => nomatch z⟩
  keep := fun i h h' st k => let ⟨ok, ov, e⟩ := st; ⟨ok, ov, k it (by simp) _ e⟩
  item := by
    intro X hP hw hK hc i pins s σ H E I hf st hg
    subst hP hw hK
    obtain ⟨hd, hi⟩ := hg
    obtain ⟨hs, hgd, hx, es', ep', hdt, hsz, ent⟩ := Inv.frzN I hd
    obtain ⟨rfl, rfl⟩ := dict_ep hod hdt
    obtain ⟨p, hp⟩ : ∃ p, ks[i]? = some p := ⟨ks[i], List.getElem?_eq_getElem hi⟩
    obtain ⟨en, hen, hkey, hval⟩ := ent i p hp
    obtain ⟨ok, ov, he⟩ := st
    rw [← hsz] at he
    have hlt : it < s.heap.objs.size := Heap.lt_size he
    have hi' : i < es'.size := by rw [hsz]; exact hi
    have eget : es'[i] = en := by
      rw [Array.getElem?_eq_getElem hi'] at hen
      exact Option.some.inj hen
    refine DT.nextI he ⟨o, hgd, hx, hdt⟩ hi' fun h' ho hT hz hk => ?_
    rw [eget] at ho hT
    refine ⟨_, rfl, wpAny_letOwnedTupleGo_items (s := { s with heap := h' }) ho fun h'' he' sb => ?_⟩
    have hT2 : h''.get? s.heap.objs.size = some { cls := .type "tuple", data := .seq #[en.key, en.val] } := (sb.2 _ (Nat.ne_of_gt hlt)).trans hT
    have new : ObjOk X.prog X.w (upd H s.heap.objs.size (.tup [.ref p.2.1, p.2.2])) h'' s.heap.objs.size (.tup [.ref p.2.1, p.2.2]) :=
      ⟨by show 2 ≤ sizeLine; decide, [en.key, en.val], .cons hkey (.cons hval .nil), ⟨_, hT2, rfl, _, rfl⟩⟩
    have I1 : Inv X pins σ (upd H s.heap.objs.size (.tup [.ref p.2.1, p.2.2])) { s with heap := h'' } :=
      I.turnedNew (t' := s.toks) (ch := [it]) (fun b ob hb e => (sb.2 b (by simpa using hb)).trans (hk b ob (by simpa using hb) e)) hf (Nat.le_refl _) new
    refine ⟨.ref s.heap.objs.size, _, I1, rfl, ⟨_, p, hp, rfl, I.hok.fresh (Nat.le_refl _), rfl⟩, ⟨en.key, en.val, ?_⟩, fun b hb => ?_⟩
    · rw [← hsz]; exact he'
    · have e : b = it := by simpa using hb
      rw [e, upd_ne (Nat.ne_of_lt hlt)]
      exact (hf it (by simp)).1
  done := by
    intro X hP hw hK hc i pins s σ H E I hf st hg
    subst hP hw hK
    obtain ⟨hd, hi⟩ := hg
    obtain ⟨f0, f1, f2, f3, f4, f5⟩ := hf it (by simp)
    obtain ⟨hs, hgd, hx, es', ep', hdt, hsz, ent⟩ := Inv.frzN I hd
    obtain ⟨rfl, rfl⟩ := dict_ep hod hdt
    obtain ⟨ok, ov, he⟩ := st
    rw [← hsz] at he
    exact DT.endI (I.ok.hd hc) he ⟨o, hgd, hx, hdt⟩ (by omega) fun h' eb => ⟨rfl, I.turned (t' := s.toks) (fun b ob hb e => eb b ob hb e) f0 f1 f3 f4 f5⟩
  self := fun A i s Q E st h => let ⟨_, _, e⟩ := st; PySem.W.kcp_self e h
def iItemsN (w : World) (td : TE) : TI := fun σ H R => td σ H fun x H1 => ∃ d o ks, x = .ref d ∧ H1 d = some (.frz o (DicN w d ks)) ∧ R (Itin w d o ks) H1
theorem pi_itemsN {e : Expr} {td : TE} {apos cpos : Pos} {elts : List Expr} {kk : Nat} {tpos : Pos} (he : PE X e td) (hw : X.w = w := by rfl) (hbase : attributeBase e "items" X.env (eval e X.env) = eval e X.env := by rfl) (hline : (apos.endLine == cpos.line) = true := by rfl) :
    PI X (.Tuple elts kk tpos) (.Call (.Attribute e "items" apos) [] [] cpos) (iItemsN w td) := by
  subst hw
  refine ⟨fun pins s σ H R I h => ?_⟩
  refine wpAny_Call_method (T := "dict") (id := "dict.items") hbase rfl hline F.plainAttrs_dict F.slot_dict_items F.type_dict_items (thn (he.run pins s σ H _ I h) fun u s1 ⟨x, H1, I1, rx, d, o, ks, ex, hd, q⟩ => ?_)
  subst ex
  obtain rfl : u = Value.ref d := rx
  obtain ⟨hs, hgd, hx, es, ep, hdt, hsz, ent⟩ := Inv.frzN I1 hd
  obtain ⟨t1, t2, _⟩ := rawN_ty I1 (ks := ks) (.inr ⟨o, hd⟩)
  refine ⟨t1, t2, ?_⟩
  have I2 : Inv X pins σ H1 { s1 with heap := s1.heap.push { cls := .type "dict_items", data := .fields #[.ref d] } } := I1.kept (t' := s1.toks) fun b ob q => Heap.get?_push_of_some _ q
  have fin : wpAny (model X.prog X.w) X.A (pyIter (.ref s1.heap.objs.size)) (PIE X pins σ (.Tuple elts kk tpos) R) X.xe { s1 with heap := s1.heap.push { cls := .type "dict_items", data := .fields #[.ref d] } } := by
    refine DT.iterI (d := d) (es := es) (ep := ep) ⟨_, Heap.get?_push_size _ rfl, rfl, rfl⟩ ⟨o, Heap.get?_push_of_some _ hgd, hx, hdt⟩ (pi_one (tk := s1.toks) I2 _ (turn_itemsN (ks := ks) _ hdt) ⟨.none, .none, ?_⟩ q)
    rw [← hsz]
    exact Heap.get?_push_size _ rfl
  show wpAny _ _ (callWith cpos (.builtin "dict.items") [.ref d] [] []) _ X.xe s1
  exact method_meetsIn F.slot_dict_items F.entry_dict_items rfl (PySem.evalArgs_none ⟨rfl, t1, F.args_dict_items_1 _, _, DT.meetsItems (es := es) (ep := ep) hs, ⟨o, hgd, hx, hdt⟩, fin⟩)
theorem walk_keysN {ks : Ents} : Walk (Itkn w d o ks) ks.length (fun H => H d = some (.frz o (DicN w d ks))) (fun i H x H' => H' = H ∧ ∃ p, ks[i]? = some p ∧ x = .ref p.2.1) :=
  ⟨fun _ _ hi q => ⟨q, hi⟩, fun _ q => ⟨q, Nat.le_refl _⟩, fun _ _ _ _ _ _ y => y⟩
theorem walk_itemsN {ks : Ents} : Walk (Itin w d o ks) ks.length (fun H => H d = some (.frz o (DicN w d ks))) (YPair (fun i => ks[i]?.map fun p => V.ref p.2.1) (fun i => ks[i]?.map fun p => p.2.2)) := by
  refine ⟨fun _ _ hi q => ⟨q, hi⟩, fun _ q => ⟨q, Nat.le_refl _⟩, fun i H x H' _ _ y => ?_⟩
  obtain ⟨T, p, h1, h2, h3, h4⟩ := y
  exact ⟨T, .ref p.2.1, p.2.2, h2, h3, h4, by simp [h1], by simp [h1]⟩
end
end
end Kw
/-! lists of data sorted; data compared by < -/
namespace Kw
open PySem PySem.Spec PyProof.Rows L2 RZ StX SrtO
section
variable {X : Cx} {K : PySem.W.Frag}
/-- sorted(xs): the values with what they read as -/
def rSortD (K : PySem.W.Frag) : List V → Hp → VK → Prop := fun vs H Q => ∃ (a : Addr) (zs : List (V × PyData)), vs = [.ref a] ∧ SqL K H a (zs.map (·.1)) ∧ (∀ z ∈ zs, Dp K H z.1 z.2) ∧
  PySem.W.AllAlike (zs.map (·.2)) ∧ PySem.W.Sortable (zs.map (·.2)) ∧ (∀ z ∈ zs, z.2.depth ≤ 40) ∧ zs.length ≤ sizeLine ∧
  ∀ p, H p = none → Q (.ref p) (upd H p (.lst ((zs.mergeSort (PySem.W.dataLe false (·.2))).map (·.1))))
theorem each_of {pins : List (Addr × Obj)} {σ : L2.St} {H : Hp} {s : Shared} (I : Inv X pins σ H s) : ∀ (zs : List (V × PyData)) (us : List Value), Vals (zs.map (·.1)) us → (∀ z ∈ zs, Dp X.K H z.1 z.2) →
    PySem.W.EachIs (fun (u : Value) (b : V × PyData) => RelV b.1 u) us zs ∧ PySem.W.EachIs (fun (u : Value) (b : V × PyData) => ∃ as, Reads s.heap u b.2 as) us zs
  | [], _, r, _ => by
    cases r
    exact ⟨.nil, .nil⟩
  | z :: zs, _, r, h => by
    cases r with
    | cons r1 r2 =>
      obtain ⟨e1, e2⟩ := each_of I zs _ r2 fun x hx => h x (List.mem_cons_of_mem _ hx)
      exact ⟨.cons r1 e1, .cons (Dp.reads I z.2 z.1 _ (h z List.mem_cons_self) r1) e2⟩
theorem vals_each : ∀ {us : List Value} {zs : List (V × PyData)}, PySem.W.EachIs (fun (u : Value) (b : V × PyData) => RelV b.1 u) us zs → Vals (zs.map (·.1)) us
  | _, _, .nil => .nil
  | _, _, .cons h t => .cons h (vals_each t)
theorem cr_sortD0 (hu : X.A.units + 64 < cLine) : CallR X (.builtin "sorted") (rSortD X.K) := by
  intro pins s σ H vs us Q I r h
  obtain ⟨a, zs, rfl, hs, hd, ha, hk, hdp, hz, q⟩ := h
  obtain ⟨u, rfl, ru⟩ := vals1 r
  obtain rfl : u = Value.ref a := ru
  obtain ⟨its, rv, hl, _⟩ := I.list hs
  obtain ⟨e1, e2⟩ := each_of I zs its rv hd
  refine PySem.W.sorted_data hl.isList e1 e2 ha hk hz (fun b hb => ?_) fun out ho eo => ?_
  · have := hdp b hb
    omega
  · obtain ⟨ep, he'⟩ := PyProof.Rows.sortedAll_at s.heap its out.toArray
    have v := vals_each eo
    refine ⟨.ref _, upd H (s.heap.objs.size + 1) (.lst ((zs.mergeSort (PySem.W.dataLe false (·.2))).map (·.1))), I.laid (t' := s.toks) (fun _ _ => PyProof.Rows.sortedAll_old) (Nat.le_succ _) ⟨?_, out, ep, v, he'⟩, rfl, q _ (I.hok.fresh (Nat.le_succ _))⟩
    rw [List.length_map, List.length_mergeSort]
    exact hz
theorem cr_sortD (hu : X.A.units + 64 < cLine) (hK : X.K = K := by rfl) : CallR X (.builtin "sorted") (rSortD K) := hK ▸ cr_sortD0 hu
/-- x < y -/
def rLtD (K : PySem.W.Frag) : R2 := fun x y H Q => ∃ d e, Dp K H x d ∧ Dp K H y e ∧ PySem.W.alike d e = true ∧ d ≠ .none ∧ d.depth ≤ 40 ∧ Q (.bl (PySem.W.dataLt d e)) H
theorem op_ltD (hu : X.A.units + 64 < cLine) (hK : X.K = K := by rfl) : OpR X (compareOp .Lt) (rLtD K) := by
  subst hK
  intro pins s σ H x y v u Q I rx ry h
  obtain ⟨d, e, hd, he, ha, hn, hdp, q⟩ := h
  obtain ⟨as, r1⟩ := Dp.reads I d x v hd rx
  obtain ⟨bs, r2⟩ := Dp.reads I e y u he ry
  refine PySem.W.lt_data r1 r2 ha hn ?_ ⟨.bl _, H, I, rfl, q⟩
  have : min d.depth e.depth ≤ 40 := Nat.le_trans (Nat.min_le_left _ _) hdp
  omega
end
end Kw
/-! every second item of a tuple -/
namespace Kw
open PySem PySem.Spec PyProof.Rows L2 RZ StX SrtO
def evens {α : Type} : List α → List α
  | [] => []
  | [x] => [x]
  | x :: _ :: r => x :: evens r
theorem evens_cons {α : Type} (x : α) : ∀ l : List α, evens (x :: l) = x :: evens (l.drop 1)
  | [] => rfl
  | _ :: _ => rfl
theorem evens_sub {α : Type} : ∀ l : List α, (evens l).Sublist l
  | [] => .slnil
  | [x] => List.Sublist.refl _
  | x :: y :: r => .cons_cons _ (.cons _ (evens_sub r))
/-- how many there are, from place k on -/
def halfN (n k : Nat) : Nat := (n - k + 1) / 2
theorem pick2 {α : Type} (xs : Array α) : ∀ (n : Nat) (l : List α) (k : Nat), n = l.length → l = xs.toList.drop k → ((List.range (halfN (k + l.length) k)).filterMap fun (m : Nat) => xs[k + m * 2]?) = evens l := by
  intro n
  induction n using Nat.strongRecOn with
  | ind n ih =>
    intro l k hn hl
    have get : ∀ i : Nat, l[i]? = xs[k + i]? := fun i => by rw [hl, List.getElem?_drop, Array.getElem?_toList]
    match l, hl, hn, get with
    | [], hl, hn, get =>
      have : halfN (k + ([] : List α).length) k = 0 := by unfold halfN; simp
      rw [this]
      rfl
    | [x], hl, hn, get =>
      have e : halfN (k + [x].length) k = 1 := by
        unfold halfN
        simp
      rw [e]
      have h0 := get 0
      simp only [List.getElem?_cons_zero, Nat.add_zero] at h0
      show ([0].filterMap fun (m : Nat) => xs[k + m * 2]?) = [x]
      simp [← h0]
    | x :: y :: r, hl, hn, get =>
      have hl2 : r = xs.toList.drop (k + 2) := by
        have := congrArg (List.drop 2) hl
        rw [List.drop_drop] at this
        simpa using this
      have q := ih r.length (by rw [hn]; simp; omega) r (k + 2) rfl hl2
      have e : halfN (k + (x :: y :: r).length) k = halfN (k + 2 + r.length) (k + 2) + 1 := by
        unfold halfN
        simp only [List.length_cons]
        omega
      rw [e, List.range_succ_eq_map, List.filterMap_cons]
      have h0 := get 0
      simp only [List.getElem?_cons_zero, Nat.add_zero] at h0
      have : xs[k + 0 * 2]? = some x := by rw [Nat.zero_mul, Nat.add_zero]; exact h0.symm
      rw [this]
      show x :: List.filterMap (fun m => xs[k + m * 2]?) (List.map Nat.succ (List.range (halfN (k + 2 + r.length) (k + 2)))) = x :: evens r
      rw [← q, List.filterMap_map]
      congr 1
      refine congrArg (fun f => List.filterMap f _) (funext fun m => ?_)
      show xs[k + (m + 1) * 2]? = xs[k + 2 + m * 2]?
      congr 1
      omega
section
variable {prog : Program} {w : World} {A : Around} {E : Value → Shared → Prop} {s : Shared}
theorem adj2 (k n : Nat) (lo : Option Int) (hlo : (lo = none ∧ k = 0) ∨ ∃ j : Nat, lo = some (j : Int) ∧ k = min j n) : Builtin.Slice.sliceAdjust lo none 2 (n : Int) = ((k : Int), (n : Int)) := by
  unfold Builtin.Slice.sliceAdjust
  rcases hlo with ⟨rfl, rfl⟩ | ⟨j, rfl, rfl⟩
  · rfl
  · have h1 : ¬ ((j : Int) < 0) := by omega
    simp only [h1, if_false, show ¬ ((2 : Int) < 0) by decide]
    rw [show min (j : Int) (n : Int) = ((min j n : Nat) : Int) by omega]
theorem places2 (k n : Nat) (h : k ≤ n) : Builtin.Slice.slicePlaces (k : Int) (n : Int) 2 = halfN n k := by
  unfold Builtin.Slice.slicePlaces halfN
  simp only [show ((2 : Int) > 0) by decide, if_true]
  split <;> omega
theorem applied2 {sl : Addr} {vl vs : Value} {lo : Option Int} {k n : Nat} {Q : Int × Int × Nat → Shared → Prop} (hs : s.heap.IsSliceOf sl vl .none vs) (pl : IsPart vl lo) (ps : IsPart vs (some 2)) (hlo : (lo = none ∧ k = 0) ∨ ∃ j : Nat, lo = some (j : Int) ∧ k = min j n)
    (h : Q ((k : Int), 2, halfN n k) s) : wpAny (model prog w) A (Builtin.Slice.sliceApplied (.ref sl) (pure (n : Int))) Q E s := by
  have hk : k ≤ n := by
    rcases hlo with ⟨_, rfl⟩ | ⟨j, _, rfl⟩
    · exact Nat.zero_le _
    · exact Nat.min_le_right _ _
  obtain ⟨os, hos, hcs, hds⟩ := id hs
  unfold Builtin.Slice.sliceApplied Builtin.Slice.sliceFields
  refine wpAny_bind (wpAny_bind (wpAny_field hos hds (x := vl) rfl (wpAny_bind (wpAny_field hos hds (x := .none) rfl (wpAny_bind (wpAny_field hos hds (x := vs) rfl (wpAny_pure ?_)))))))
  refine wpAny_bind (HT.slicePart_ ps ?_)
  show wpAny _ _ (if ((2 : Int) == 0) = true then _ else _) _ _ s
  rw [if_neg (by decide)]
  refine wpAny_bind (HT.slicePart_ pl (wpAny_bind (slicePart_none (wpAny_bind (wpAny_pure ?_)))))
  show wpAny _ _ (match Builtin.Slice.sliceAdjust lo none 2 (n : Int) with | (lo, hi) => pure (lo, (2 : Int), Builtin.Slice.slicePlaces lo hi 2)) _ _ s
  rw [adj2 k n lo hlo]
  show wpAny _ _ (pure ((k : Int), (2 : Int), Builtin.Slice.slicePlaces (k : Int) (n : Int) 2)) _ _ s
  rw [places2 k n hk]
  exact wpAny_pure h
theorem getItem_half {t sl : Addr} {items : List Value} {vl vs : Value} {lo : Option Int} {k : Nat} {Q : Value → Shared → Prop} (ht : IsTup s.heap t items.toArray) (hs : s.heap.IsSliceOf sl vl .none vs) (pl : IsPart vl lo) (ps : IsPart vs (some 2))
    (hlo : (lo = none ∧ k = 0) ∨ ∃ j : Nat, lo = some (j : Int) ∧ k = min j items.length) (hz : items.length ≤ sizeLine)
    (h : Q (.ref s.heap.objs.size) { s with heap := s.heap.push { cls := .type "tuple", data := .seq (evens (items.drop k)).toArray } }) : wpAny (model prog w) A (getItem (.ref t) (.ref sl)) Q E s := by
  have hk : k ≤ items.length := by
    rcases hlo with ⟨_, rfl⟩ | ⟨j, _, rfl⟩
    · exact Nat.zero_le _
    · exact Nat.min_le_right _ _
  have esz : items.toArray.size = items.length := List.size_toArray
  have fits : sizeOk (.seq (evens (items.drop k)).toArray) := by
    show (evens (items.drop k)).toArray.size ≤ sizeLine
    rw [List.size_toArray]
    have h1 := (evens_sub (items.drop k)).length_le
    rw [List.length_drop] at h1
    omega
  obtain ⟨os, hos, hcs, hds⟩ := id hs
  have hTs : s.TypeIs (.ref sl) "slice" := ⟨os, hos, hcs⟩
  unfold getItem
  try with_reducible refine wpAny_holding ?_
  first | refine wpAny_bind (wpAny_pure ?_) | skip
  refine wpAny_bind (wpAny_sequenceKey ht.typeIs (by decide) ?_)
  refine wpAny_bind (wpAny_callSpecial?_slot (name := Str.ofString "__getitem__") ht.typeIs PyProof.Rows.slot_tuple_getitem
    (wpAny_call_entry PyProof.Rows.slot_tuple_getitem ht.typeIs PyProof.Rows.entry_tuple_getitem ?_ (PyProof.Rows.args_tuple_getitem _ _)))
  show wpAny _ _ (Builtin.Tuple.tupleItemsOf (.ref t) >>= _) _ _ s
  refine wpAny_bind (PyProof.Rows.tupleItemsOf_ ht ?_)
  refine wpAny_bind (wpAny_typeOf hTs ?_)
  rw [if_pos (by decide), esz]
  refine wpAny_bind (applied2 hs pl ps hlo ?_)
  show wpAny _ _ (if (((k : Nat) : Int) == 0 && (2 : Int) == 1 && halfN items.length k == items.length) = true then _ else _) _ _ s
  have pk : ((List.range (halfN items.length k)).filterMap fun (m : Nat) => items.toArray[((k : Int) + (m : Int) * 2).toNat]?).toArray = (evens (items.drop k)).toArray := by
    have q := pick2 items.toArray (items.drop k).length (items.drop k) k rfl (by simp)
    rw [List.length_drop, show k + (items.length - k) = items.length by omega] at q
    rw [← q]
    refine congrArg List.toArray (congrArg (fun f => List.filterMap f _) (funext fun m => ?_))
    congr 1
  rw [if_neg (by simp), pk]
  first
    | exact wpAny_bind (m := Builtin.Tuple.tupleExact _) (wpAny_newObj_type (wpAny_pure ⟨_, rfl, wpAny_pure h⟩) fits)
    | exact wpAny_bind (m := Builtin.Tuple.tupleExact _) (wpAny_newObj_type (wpAny_bind (wpAny_pure (wpAny_pure ⟨_, rfl, wpAny_pure h⟩))) fits)
    | exact wpAny_bind (wpAny_bind (m := Builtin.Tuple.tupleExact _) (wpAny_newObj_type (wpAny_pure (wpAny_pure ⟨_, rfl, wpAny_pure h⟩)) fits))
    | exact wpAny_bind (wpAny_bind (m := Builtin.Tuple.tupleExact _) (wpAny_newObj_type (wpAny_pure ⟨_, rfl, wpAny_pure h⟩) fits))
end
theorem vals_evens : ∀ {xs : List V} {us : List Value}, Vals xs us → Vals (evens xs) (evens us)
  | _, _, .nil => .nil
  | _, _, .cons r .nil => .cons r .nil
  | _, _, .cons r (.cons _ t) => .cons r (vals_evens t)
/-- t[::2], t[j::2] -/
def tHalf (K : PySem.W.Frag) (te : TE) (tl : TO) : TE := fun σ H Q => te σ H fun x H1 => tl σ H1 fun lo H2 => ∃ a xs k, x = .ref a ∧ SqT K H2 a xs ∧ ((lo = none ∧ k = 0) ∨ ∃ j : Nat, lo = some (j : Int) ∧ k = min j xs.length) ∧
  ∀ p, H2 p = none → Q (.ref p) (upd H2 p (.tup (evens (xs.drop k))))
theorem pe_half {X : Cx} {K : PySem.W.Frag} {e : Expr} {te : TE} {lo : Option Expr} {tl : TO} {k : Nat} {p1 p2 pos : Pos} (he : PE X e te) (hl : PO X lo tl) (hK : X.K = K := by rfl)
    (hs : ∀ ov iv, subscripted (.Slice lo none (some (.Constant (.int 2) k p1)) p2) false ov iv = operate [ov, iv] (getItem ov iv) := by intro _ _; rfl) :
    PE X (.Subscript e (.Slice lo none (some (.Constant (.int 2) k p1)) p2) pos) (tHalf K te tl) := by
  subst hK
  refine ⟨fun pins s σ H Q I h => ?_⟩
  refine Subscript_ (thn (he.run pins s σ H _ I h) fun v s1 ⟨x, H1, I1, r1, q1⟩ => ?_)
  have hst : PO X (some (.Constant (.int 2) k p1)) (tPart (tC (.int 2))) := po_some pe_int
  refine wpAny_Slice (thn (hl.run pins s1 σ H1 _ I1 q1) fun vl s2 ⟨l, H2, I2, pl, q2⟩ => ?_)
  refine thn (po_none.run pins s2 σ H2 (fun o H3 => o = none ∧ H3 = H2) I2 ⟨rfl, rfl⟩) fun vu s3 ⟨u, H3, I3, pu, eu, e3⟩ => ?_
  subst eu e3
  refine thn (hst.run pins s3 σ H3 (fun o H4 => o = some 2 ∧ H4 = H3) I3 ⟨2, rfl, rfl, rfl⟩) fun vs s4 ⟨o, H4, I4, ps, eo, e4⟩ => ?_
  subst eo e4
  obtain ⟨a, xs, j, ex, hx, hj, q⟩ := q2
  subst ex
  cases r1
  have I5 : Inv X pins σ H4 { s4 with heap := s4.heap.push { cls := .type "slice", data := .fields #[vl, vu, vs] } } := I4.kept (t' := s4.toks) fun b ob q => Heap.get?_push_of_some _ q
  obtain ⟨its, r, ht, hz⟩ := I5.tuple hx
  have hlen := r.length
  have evu : vu = .none := by cases pu; rfl
  subst evu
  refine tail_any (ops := [.ref a, .ref s4.heap.objs.size]) ht.typeIs (PyProof.Rows.slot_tuple_getitem.lookup) ?_ (hs _ _)
  refine getItem_half ht (Heap.IsSliceOf.new _ vl .none vs) pl ps (k := j) (by rw [← hlen]; exact hj) (by omega) ?_
  have new : Vals (evens (xs.drop j)) (evens (its.drop j)) := vals_evens (Vals.drop j r)
  refine ⟨.ref _, _, I5.laid (t' := s4.toks) (o := .tup (evens (xs.drop j))) (fun b ob q => Heap.get?_push_of_some _ q) (Nat.le_refl _) ?_, rfl, q _ (I5.hok.fresh (Nat.le_refl _))⟩
  refine ⟨?_, _, new, ⟨_, Heap.get?_push_size _ rfl, rfl, _, rfl⟩⟩
  have h1 := (evens_sub (xs.drop j)).length_le
  rw [List.length_drop] at h1
  omega
end Kw
/-! a tuple times an int, 1 among them -/
namespace Kw
open PySem PySem.Spec PyProof.Rows L2 RZ StX SrtO
theorem tuple_mul1 (l : Addr) (items : Array Value) (n : Nat) (dd : Option Addr) (sl : Array (Option Value)) (u : Tok) :
    Meets (Builtin.«tuple.__mul__» ⟨[.ref l, .int 1 u], []⟩) (fun _ R s => s.heap.get? l = some { cls := .type "tuple", dict := dd, data := .seq items n, slots := sl } ∧ R (.ok (.ret (Value.ref l))) s) :=
  .of_wp fun prog w A R s h => by
    obtain ⟨hp, g, d, tk, os⟩ := s
    obtain ⟨hl, h⟩ := h
    have f1 := AutoSeq1.idx_int
    wp_walk using wpAny_loadPart' hl
    exact ⟨_, rfl, h⟩
def rRepA (K : PySem.W.Frag) : R2 := fun x y H Q => ∃ l k xs, x = .ref l ∧ y = .int k ∧ SqT K H l xs ∧ xs ≠ [] ∧ 1 ≤ k ∧ k ≤ 1000 ∧ xs.length ≤ 1000 ∧
  ∀ (p : Addr) (H' : Hp), Same H H' → SqT K H' p (List.replicate k.toNat xs).flatten → Q (.ref p) H'
theorem op_repA {X : Cx} {K : PySem.W.Frag} (hK : X.K = K := by rfl) : OpR X (binaryOp .Mult) (rRepA K) := by
  subst hK
  intro pins s σ H x y v u Q I rx ry h
  obtain ⟨l, k, xs, ex, ey, hT, hne, h1, h2, hz, q⟩ := h
  by_cases c : k = 1
  · subst ex ey c
    cases rx
    obtain ⟨t, rfl⟩ := ry
    obtain ⟨its, r, ⟨⟨cls, dd, data, sl⟩, ho, hc, n, hd⟩, hs⟩ := I.tuple hT
    simp only at hc hd
    subst hc hd
    refine wpAny_binaryOp_repeat_ref (T := "tuple") (U := "int") (by decide) ⟨_, ho, rfl⟩ (fun s' => typeIs_int s' 1 t) noFill_tuple_mul F.fills_int_mul F.slot_int_rmul repeat_tuple F.slot_int_index.lookup
      (call_meets F.slot_int_rmul (typeIs_int s 1 t) F.entry_int_rmul (F.args_int_rmul_2 _ _) (int_rmul_tuple 1 t l its.toArray n dd sl)
        ⟨ho, rfl, ⟨_, ho, rfl⟩, call_meets F.slot_tuple_mul ⟨_, ho, rfl⟩ F.entry_tuple_mul (F.args_tuple_mul_2 _ _) (tuple_mul1 l its.toArray n dd sl t) ⟨ho, ?_⟩⟩)
    refine ⟨.ref l, H, I, rfl, q l H (Same.refl H) ?_⟩
    have : (List.replicate (1 : Int).toNat xs).flatten = xs := by
      show (List.replicate 1 xs).flatten = xs
      simp [List.replicate_succ]
    rw [this]
    exact hT
  · refine op_repT pins s σ H x y v u Q I rx ry ⟨l, k, xs, ex, ey, hT, hne, by omega, h2, hz, fun p np => q p _ (same_new np _) (SqT.of upd_same)⟩
end Kw
namespace KL
open PySem PySem.Spec PyProof.Rows L2 RZ StX SrtO Kw KM
def topS (i : Nat) : Stmt := PySem.Challenge.pw_slantpanes_k12_tints_at_far_cells.main.body.getD i (.Pass ⟨0, 0, 0, 0⟩)
abbrev s_is_integer : Stmt := topS 8
abbrev N_is_integer : List Str := ["thing"]
theorem sc_is_integer : FnScope N_is_integer ["thing"] (defScope s_is_integer) := ⟨rfl, rfl, rfl, by decide +kernel, rfl, by decide +kernel, by decide +kernel⟩
abbrev s_primes_of : Stmt := topS 9
abbrev N_primes_of : List Str := ["number", "p"]
theorem sc_primes_of : FnScope N_primes_of ["number"] (defScope s_primes_of) := ⟨rfl, rfl, rfl, by decide +kernel, rfl, by decide +kernel, by decide +kernel⟩
abbrev s_part_at : Stmt := topS 10
abbrev N_part_at : List Str := ["number", "p", "part"]
theorem sc_part_at : FnScope N_part_at ["number", "p"] (defScope s_part_at) := ⟨rfl, rfl, rfl, by decide +kernel, rfl, by decide +kernel, by decide +kernel⟩
abbrev s_common_divisor : Stmt := topS 11
abbrev N_common_divisor : List Str := ["number", "others", "divisor", "other"]
theorem sc_common_divisor : FnScope N_common_divisor ["number", "others"] (defScope s_common_divisor) := ⟨rfl, rfl, rfl, by decide +kernel, rfl, by decide +kernel, by decide +kernel⟩
abbrev s_is_period : Stmt := topS 15
abbrev N_is_period : List Str := ["thing", "rest", "multiplied", "p"]
theorem sc_is_period : FnScope N_is_period ["thing"] (defScope s_is_period) := ⟨rfl, rfl, rfl, by decide +kernel, rfl, by decide +kernel, by decide +kernel⟩
abbrev s_is_cell : Stmt := topS 16
abbrev N_is_cell : List Str := ["thing", "number"]
theorem sc_is_cell : FnScope N_is_cell ["thing"] (defScope s_is_cell) := ⟨rfl, rfl, rfl, by decide +kernel, rfl, by decide +kernel, by decide +kernel⟩
abbrev s_is_stripe : Stmt := topS 17
abbrev N_is_stripe : List Str := ["thing", "m", "c", "r", "number"]
theorem sc_is_stripe : FnScope N_is_stripe ["thing"] (defScope s_is_stripe) := ⟨rfl, rfl, rfl, by decide +kernel, rfl, by decide +kernel, by decide +kernel⟩
abbrev s_is_on : Stmt := topS 18
abbrev N_is_on : List Str := ["stripe", "cell"]
theorem sc_is_on : FnScope N_is_on ["stripe", "cell"] (defScope s_is_on) := ⟨rfl, rfl, rfl, by decide +kernel, rfl, by decide +kernel, by decide +kernel⟩
abbrev s_lies_on : Stmt := topS 19
abbrev N_lies_on : List Str := ["stripe", "cell", "m", "c", "r"]
theorem sc_lies_on : FnScope N_lies_on ["stripe", "cell"] (defScope s_lies_on) := ⟨rfl, rfl, rfl, by decide +kernel, rfl, by decide +kernel, by decide +kernel⟩
abbrev s_dot : Stmt := topS 20
abbrev N_dot : List Str := ["c", "x", "number", "along"]
theorem sc_dot : FnScope N_dot ["c", "x"] (defScope s_dot) := ⟨rfl, rfl, rfl, by decide +kernel, rfl, by decide +kernel, by decide +kernel⟩
abbrev s_check_stripe : Stmt := topS 21
abbrev N_check_stripe : List Str := ["thing"]
theorem sc_check_stripe : FnScope N_check_stripe ["thing"] (defScope s_check_stripe) := ⟨rfl, rfl, rfl, by decide +kernel, rfl, by decide +kernel, by decide +kernel⟩
abbrev s_is_heap : Stmt := topS 23
abbrev N_is_heap : List Str := ["thing", "stripes", "item", "stripe", "_", "before", "behind"]
theorem sc_is_heap : FnScope N_is_heap ["thing"] (defScope s_is_heap) := ⟨rfl, rfl, rfl, by decide +kernel, rfl, by decide +kernel, by decide +kernel⟩
abbrev s_is_stripe_with_tint : Stmt := topS 24
abbrev N_is_stripe_with_tint : List Str := ["thing", "stripe", "tint"]
theorem sc_is_stripe_with_tint : FnScope N_is_stripe_with_tint ["thing"] (defScope s_is_stripe_with_tint) := ⟨rfl, rfl, rfl, by decide +kernel, rfl, by decide +kernel, by decide +kernel⟩
abbrev s_tint_at : Stmt := topS 25
abbrev N_tint_at : List Str := ["heap", "cell"]
theorem sc_tint_at : FnScope N_tint_at ["heap", "cell"] (defScope s_tint_at) := ⟨rfl, rfl, rfl, by decide +kernel, rfl, by decide +kernel, by decide +kernel⟩
abbrev s_has_breadth : Stmt := topS 26
abbrev N_has_breadth : List Str := ["heap", "breadth", "stripe", "_"]
theorem sc_has_breadth : FnScope N_has_breadth ["heap", "breadth"] (defScope s_has_breadth) := ⟨rfl, rfl, rfl, by decide +kernel, rfl, by decide +kernel, by decide +kernel⟩
abbrev s_tint_on : Stmt := topS 27
abbrev N_tint_on : List Str := ["heap", "cell", "stripe", "tint"]
theorem sc_tint_on : FnScope N_tint_on ["heap", "cell"] (defScope s_tint_on) := ⟨rfl, rfl, rfl, by decide +kernel, rfl, by decide +kernel, by decide +kernel⟩
abbrev s_check_heap : Stmt := topS 28
abbrev N_check_heap : List Str := ["thing"]
theorem sc_check_heap : FnScope N_check_heap ["thing"] (defScope s_check_heap) := ⟨rfl, rfl, rfl, by decide +kernel, rfl, by decide +kernel, by decide +kernel⟩
abbrev s_check_cell : Stmt := topS 29
abbrev N_check_cell : List Str := ["heap", "thing"]
theorem sc_check_cell : FnScope N_check_cell ["heap", "thing"] (defScope s_check_cell) := ⟨rfl, rfl, rfl, by decide +kernel, rfl, by decide +kernel, by decide +kernel⟩
abbrev s__law_deck : Stmt := topS 31
abbrev N__law_deck : List Str := ["_law_script", "_law_mixed", "_law_cell"]
theorem sc__law_deck : FnScope N__law_deck ["_law_script"] (defScope s__law_deck) := ⟨rfl, rfl, rfl, by decide +kernel, rfl, by decide +kernel, by decide +kernel⟩
abbrev s__law_draw : Stmt := topS 32
abbrev N__law_draw : List Str := ["_law_deck_here", "_law_many", "_law_number", "_law_cell"]
theorem sc__law_draw : FnScope N__law_draw ["_law_deck_here", "_law_many"] (defScope s__law_draw) := ⟨rfl, rfl, rfl, by decide +kernel, rfl, by decide +kernel, by decide +kernel⟩
abbrev s__law_pick : Stmt := topS 33
abbrev N__law_pick : List Str := ["_law_deck_here", "_law_some"]
theorem sc__law_pick : FnScope N__law_pick ["_law_deck_here", "_law_some"] (defScope s__law_pick) := ⟨rfl, rfl, rfl, by decide +kernel, rfl, by decide +kernel, by decide +kernel⟩
abbrev s__law_great : Stmt := topS 34
abbrev N__law_great : List Str := ["_law_deck_here", "_law_top", "_law_found", "_law_room"]
theorem sc__law_great : FnScope N__law_great ["_law_deck_here", "_law_top"] (defScope s__law_great) := ⟨rfl, rfl, rfl, by decide +kernel, rfl, by decide +kernel, by decide +kernel⟩
abbrev s__law_signed : Stmt := topS 35
abbrev N__law_signed : List Str := ["_law_deck_here", "_law_top", "_law_way", "_law_number"]
theorem sc__law_signed : FnScope N__law_signed ["_law_deck_here", "_law_top"] (defScope s__law_signed) := ⟨rfl, rfl, rfl, by decide +kernel, rfl, by decide +kernel, by decide +kernel⟩
abbrev s__law_powers : Stmt := topS 36
abbrev N__law_powers : List Str := ["_law_deck_here", "_law_top", "_law_most", "_law_some", "_law_product_here", "_law_rest", "_law_found", "_law_way", "_law_turn", "_law_p", "_law_pairs", "_law_q"]
theorem sc__law_powers : FnScope N__law_powers ["_law_deck_here", "_law_top", "_law_most"] (defScope s__law_powers) := ⟨rfl, rfl, rfl, by decide +kernel, rfl, by decide +kernel, by decide +kernel⟩
abbrev s__law_product : Stmt := topS 37
abbrev N__law_product : List Str := ["_law_some", "_law_found", "_law_x"]
theorem sc__law_product : FnScope N__law_product ["_law_some"] (defScope s__law_product) := ⟨rfl, rfl, rfl, by decide +kernel, rfl, by decide +kernel, by decide +kernel⟩
abbrev s__law_numbers : Stmt := topS 38
abbrev N__law_numbers : List Str := ["_law_deck_here", "_law_powers_here", "_law_m", "_law_d", "_law_found", "_law_at", "_law_way", "_law_number", "_law_p", "_law_q", "_law_x"]
theorem sc__law_numbers : FnScope N__law_numbers ["_law_deck_here", "_law_powers_here", "_law_m", "_law_d"] (defScope s__law_numbers) := ⟨rfl, rfl, rfl, by decide +kernel, rfl, by decide +kernel, by decide +kernel⟩
abbrev s__law_unit : Stmt := topS 39
abbrev N__law_unit : List Str := ["_law_deck_here", "_law_powers_here", "_law_m", "_law_number", "_law_p", "_law_q"]
theorem sc__law_unit : FnScope N__law_unit ["_law_deck_here", "_law_powers_here", "_law_m"] (defScope s__law_unit) := ⟨rfl, rfl, rfl, by decide +kernel, rfl, by decide +kernel, by decide +kernel⟩
abbrev s__law_along : Stmt := topS 40
abbrev N__law_along : List Str := ["_law_c", "_law_x", "_law_one", "_law_other"]
theorem sc__law_along : FnScope N__law_along ["_law_c", "_law_x"] (defScope s__law_along) := ⟨rfl, rfl, rfl, by decide +kernel, rfl, by decide +kernel, by decide +kernel⟩
abbrev s__law_common : Stmt := topS 41
abbrev N__law_common : List Str := ["_law_one", "_law_other"]
theorem sc__law_common : FnScope N__law_common ["_law_one", "_law_other"] (defScope s__law_common) := ⟨rfl, rfl, rfl, by decide +kernel, rfl, by decide +kernel, by decide +kernel⟩
abbrev s__law_tint : Stmt := topS 42
abbrev N__law_tint : List Str := ["_law_heap", "_law_x", "_law_stripe", "_law_tint_here"]
theorem sc__law_tint : FnScope N__law_tint ["_law_heap", "_law_x"] (defScope s__law_tint) := ⟨rfl, rfl, rfl, by decide +kernel, rfl, by decide +kernel, by decide +kernel⟩
abbrev s__law_by : Stmt := topS 43
abbrev N__law_by : List Str := ["_law_stripe", "_law_u", "_law_m", "_law_c", "_law_r", "_law_a"]
theorem sc__law_by : FnScope N__law_by ["_law_stripe", "_law_u"] (defScope s__law_by) := ⟨rfl, rfl, rfl, by decide +kernel, rfl, by decide +kernel, by decide +kernel⟩
abbrev s__law_heaps : Stmt := topS 44
abbrev N__law_heaps : List Str := ["_law_deck_here", "_law_d", "_law_x", "_law_found", "_law_others", "_law_top", "_law_turn", "_law_powers_here", "_law_m", "_law_c", "_law_more", "_law_tint_here", "_law_stripe", "_law_other", "_law_heap", "_law_p", "_law_q"]
theorem sc__law_heaps : FnScope N__law_heaps ["_law_deck_here", "_law_d", "_law_x"] (defScope s__law_heaps) := ⟨rfl, rfl, rfl, by decide +kernel, rfl, by decide +kernel, by decide +kernel⟩
abbrev s__law_is_due : Stmt := topS 45
abbrev N__law_is_due : List Str := ["_law_heap", "_law_other", "_law_cell", "_law_due", "_law_told", "_law_at", "_law_stripe", "_law_tint_here"]
theorem sc__law_is_due : FnScope N__law_is_due ["_law_heap", "_law_other", "_law_cell"] (defScope s__law_is_due) := ⟨rfl, rfl, rfl, by decide +kernel, rfl, by decide +kernel, by decide +kernel⟩
abbrev s__law_near : Stmt := topS 46
abbrev N__law_near : List Str := ["_law_deck_here", "_law_heap", "_law_x", "_law_many", "_law_stripe", "_law_tint_here", "_law_common_here", "_law_a"]
theorem sc__law_near : FnScope N__law_near ["_law_deck_here", "_law_heap", "_law_x"] (defScope s__law_near) := ⟨rfl, rfl, rfl, by decide +kernel, rfl, by decide +kernel, by decide +kernel⟩
abbrev s_law : Stmt := topS 47
abbrev N_law : List Str := ["_law_script", "_law_deck_here", "_law_d", "_law_x", "_law_heap", "_law_other", "_law_cells", "_law_cell", "_law_many", "_law_stripe", "_law_tint_here", "_law_y", "_law_due", "_law_at", "_law_a", "_law_breadth"]
theorem sc_law : FnScope N_law ["_law_script"] (defScope s_law) := ⟨rfl, rfl, rfl, by decide +kernel, rfl, by decide +kernel, by decide +kernel⟩
def C_PRIMES : List Int := [2, 3, 5, 7, 11, 13, 17, 19, 23, 29]
def gkb_tint_at_0_cell_heap : List Value → List Value → List Value := fun (us ws : List Value) => match us, ws with | [], [k0, k1] => [k1, k0] | _, _ => []
def gkb_tint_at_0_cell_heapV : List V → List V → List V := fun (us ws : List V) => match us, ws with | [], [k0, k1] => [k1, k0] | _, _ => []
/-- what the top has made -/
structure Txt (K : PySem.W.Frag) (mg : Str → Option Value) where
  a_is_integer : Addr
  d_is_integer : FuncData
  F_is_integer : Fun K "is_integer" "is_integer" s_is_integer a_is_integer d_is_integer
  m_is_integer : mg "is_integer" = some (.ref a_is_integer)
  b_is_integer : Binds K d_is_integer ["thing"] []
  a_primes_of : Addr
  d_primes_of : FuncData
  F_primes_of : Fun K "primes_of" "primes_of" s_primes_of a_primes_of d_primes_of
  m_primes_of : mg "primes_of" = some (.ref a_primes_of)
  b_primes_of : Binds K d_primes_of ["number"] []
  a_part_at : Addr
  d_part_at : FuncData
  F_part_at : Fun K "part_at" "part_at" s_part_at a_part_at d_part_at
  m_part_at : mg "part_at" = some (.ref a_part_at)
  b_part_at : Binds K d_part_at ["number", "p"] []
  a_common_divisor : Addr
  d_common_divisor : FuncData
  F_common_divisor : Fun K "common_divisor" "common_divisor" s_common_divisor a_common_divisor d_common_divisor
  m_common_divisor : mg "common_divisor" = some (.ref a_common_divisor)
  b_common_divisor : Binds K d_common_divisor ["number", "others"] []
  a_is_period : Addr
  d_is_period : FuncData
  F_is_period : Fun K "is_period" "is_period" s_is_period a_is_period d_is_period
  m_is_period : mg "is_period" = some (.ref a_is_period)
  b_is_period : Binds K d_is_period ["thing"] []
  a_is_cell : Addr
  d_is_cell : FuncData
  F_is_cell : Fun K "is_cell" "is_cell" s_is_cell a_is_cell d_is_cell
  m_is_cell : mg "is_cell" = some (.ref a_is_cell)
  b_is_cell : Binds K d_is_cell ["thing"] []
  a_is_stripe : Addr
  d_is_stripe : FuncData
  F_is_stripe : Fun K "is_stripe" "is_stripe" s_is_stripe a_is_stripe d_is_stripe
  m_is_stripe : mg "is_stripe" = some (.ref a_is_stripe)
  b_is_stripe : Binds K d_is_stripe ["thing"] []
  a_is_on : Addr
  d_is_on : FuncData
  F_is_on : Fun K "is_on" "is_on" s_is_on a_is_on d_is_on
  m_is_on : mg "is_on" = some (.ref a_is_on)
  b_is_on : Binds K d_is_on ["stripe", "cell"] []
  a_lies_on : Addr
  d_lies_on : FuncData
  F_lies_on : Fun K "lies_on" "lies_on" s_lies_on a_lies_on d_lies_on
  m_lies_on : mg "lies_on" = some (.ref a_lies_on)
  b_lies_on : Binds K d_lies_on ["stripe", "cell"] []
  a_dot : Addr
  d_dot : FuncData
  F_dot : Fun K "dot" "dot" s_dot a_dot d_dot
  m_dot : mg "dot" = some (.ref a_dot)
  b_dot : Binds K d_dot ["c", "x"] []
  a_check_stripe : Addr
  d_check_stripe : FuncData
  F_check_stripe : Fun K "check_stripe" "check_stripe" s_check_stripe a_check_stripe d_check_stripe
  m_check_stripe : mg "check_stripe" = some (.ref a_check_stripe)
  b_check_stripe : Binds K d_check_stripe ["thing"] []
  a_is_heap : Addr
  d_is_heap : FuncData
  F_is_heap : Fun K "is_heap" "is_heap" s_is_heap a_is_heap d_is_heap
  m_is_heap : mg "is_heap" = some (.ref a_is_heap)
  b_is_heap : Binds K d_is_heap ["thing"] []
  a_is_stripe_with_tint : Addr
  d_is_stripe_with_tint : FuncData
  F_is_stripe_with_tint : Fun K "is_stripe_with_tint" "is_stripe_with_tint" s_is_stripe_with_tint a_is_stripe_with_tint d_is_stripe_with_tint
  m_is_stripe_with_tint : mg "is_stripe_with_tint" = some (.ref a_is_stripe_with_tint)
  b_is_stripe_with_tint : Binds K d_is_stripe_with_tint ["thing"] []
  a_tint_at : Addr
  d_tint_at : FuncData
  F_tint_at : Fun K "tint_at" "tint_at" s_tint_at a_tint_at d_tint_at
  m_tint_at : mg "tint_at" = some (.ref a_tint_at)
  b_tint_at : Binds K d_tint_at ["heap", "cell"] []
  a_has_breadth : Addr
  d_has_breadth : FuncData
  F_has_breadth : Fun K "has_breadth" "has_breadth" s_has_breadth a_has_breadth d_has_breadth
  m_has_breadth : mg "has_breadth" = some (.ref a_has_breadth)
  b_has_breadth : Binds K d_has_breadth ["heap", "breadth"] []
  a_tint_on : Addr
  d_tint_on : FuncData
  F_tint_on : Fun K "tint_on" "tint_on" s_tint_on a_tint_on d_tint_on
  m_tint_on : mg "tint_on" = some (.ref a_tint_on)
  b_tint_on : Binds K d_tint_on ["heap", "cell"] []
  a_check_heap : Addr
  d_check_heap : FuncData
  F_check_heap : Fun K "check_heap" "check_heap" s_check_heap a_check_heap d_check_heap
  m_check_heap : mg "check_heap" = some (.ref a_check_heap)
  b_check_heap : Binds K d_check_heap ["thing"] []
  a_check_cell : Addr
  d_check_cell : FuncData
  F_check_cell : Fun K "check_cell" "check_cell" s_check_cell a_check_cell d_check_cell
  m_check_cell : mg "check_cell" = some (.ref a_check_cell)
  b_check_cell : Binds K d_check_cell ["heap", "thing"] []
  a__law_deck : Addr
  d__law_deck : FuncData
  F__law_deck : Fun K "_law_deck" "_law_deck" s__law_deck a__law_deck d__law_deck
  m__law_deck : mg "_law_deck" = some (.ref a__law_deck)
  b__law_deck : Binds K d__law_deck ["_law_script"] []
  a__law_draw : Addr
  d__law_draw : FuncData
  F__law_draw : Fun K "_law_draw" "_law_draw" s__law_draw a__law_draw d__law_draw
  m__law_draw : mg "_law_draw" = some (.ref a__law_draw)
  b__law_draw : Binds K d__law_draw ["_law_deck_here", "_law_many"] []
  a__law_pick : Addr
  d__law_pick : FuncData
  F__law_pick : Fun K "_law_pick" "_law_pick" s__law_pick a__law_pick d__law_pick
  m__law_pick : mg "_law_pick" = some (.ref a__law_pick)
  b__law_pick : Binds K d__law_pick ["_law_deck_here", "_law_some"] []
  a__law_great : Addr
  d__law_great : FuncData
  F__law_great : Fun K "_law_great" "_law_great" s__law_great a__law_great d__law_great
  m__law_great : mg "_law_great" = some (.ref a__law_great)
  b__law_great : Binds K d__law_great ["_law_deck_here", "_law_top"] []
  a__law_signed : Addr
  d__law_signed : FuncData
  F__law_signed : Fun K "_law_signed" "_law_signed" s__law_signed a__law_signed d__law_signed
  m__law_signed : mg "_law_signed" = some (.ref a__law_signed)
  b__law_signed : Binds K d__law_signed ["_law_deck_here", "_law_top"] []
  a__law_powers : Addr
  d__law_powers : FuncData
  F__law_powers : Fun K "_law_powers" "_law_powers" s__law_powers a__law_powers d__law_powers
  m__law_powers : mg "_law_powers" = some (.ref a__law_powers)
  b__law_powers : Binds K d__law_powers ["_law_deck_here", "_law_top", "_law_most"] []
  a__law_product : Addr
  d__law_product : FuncData
  F__law_product : Fun K "_law_product" "_law_product" s__law_product a__law_product d__law_product
  m__law_product : mg "_law_product" = some (.ref a__law_product)
  b__law_product : Binds K d__law_product ["_law_some"] []
  a__law_numbers : Addr
  d__law_numbers : FuncData
  F__law_numbers : Fun K "_law_numbers" "_law_numbers" s__law_numbers a__law_numbers d__law_numbers
  m__law_numbers : mg "_law_numbers" = some (.ref a__law_numbers)
  b__law_numbers : Binds K d__law_numbers ["_law_deck_here", "_law_powers_here", "_law_m", "_law_d"] []
  a__law_unit : Addr
  d__law_unit : FuncData
  F__law_unit : Fun K "_law_unit" "_law_unit" s__law_unit a__law_unit d__law_unit
  m__law_unit : mg "_law_unit" = some (.ref a__law_unit)
  b__law_unit : Binds K d__law_unit ["_law_deck_here", "_law_powers_here", "_law_m"] []
  a__law_along : Addr
  d__law_along : FuncData
  F__law_along : Fun K "_law_along" "_law_along" s__law_along a__law_along d__law_along
  m__law_along : mg "_law_along" = some (.ref a__law_along)
  b__law_along : Binds K d__law_along ["_law_c", "_law_x"] []
  a__law_common : Addr
  d__law_common : FuncData
  F__law_common : Fun K "_law_common" "_law_common" s__law_common a__law_common d__law_common
  m__law_common : mg "_law_common" = some (.ref a__law_common)
  b__law_common : Binds K d__law_common ["_law_one", "_law_other"] []
  a__law_tint : Addr
  d__law_tint : FuncData
  F__law_tint : Fun K "_law_tint" "_law_tint" s__law_tint a__law_tint d__law_tint
  m__law_tint : mg "_law_tint" = some (.ref a__law_tint)
  b__law_tint : Binds K d__law_tint ["_law_heap", "_law_x"] []
  a__law_by : Addr
  d__law_by : FuncData
  F__law_by : Fun K "_law_by" "_law_by" s__law_by a__law_by d__law_by
  m__law_by : mg "_law_by" = some (.ref a__law_by)
  b__law_by : Binds K d__law_by ["_law_stripe", "_law_u"] []
  a__law_heaps : Addr
  d__law_heaps : FuncData
  F__law_heaps : Fun K "_law_heaps" "_law_heaps" s__law_heaps a__law_heaps d__law_heaps
  m__law_heaps : mg "_law_heaps" = some (.ref a__law_heaps)
  b__law_heaps : Binds K d__law_heaps ["_law_deck_here", "_law_d", "_law_x"] []
  a__law_is_due : Addr
  d__law_is_due : FuncData
  F__law_is_due : Fun K "_law_is_due" "_law_is_due" s__law_is_due a__law_is_due d__law_is_due
  m__law_is_due : mg "_law_is_due" = some (.ref a__law_is_due)
  b__law_is_due : Binds K d__law_is_due ["_law_heap", "_law_other", "_law_cell"] []
  a__law_near : Addr
  d__law_near : FuncData
  F__law_near : Fun K "_law_near" "_law_near" s__law_near a__law_near d__law_near
  m__law_near : mg "_law_near" = some (.ref a__law_near)
  b__law_near : Binds K d__law_near ["_law_deck_here", "_law_heap", "_law_x"] []
  a_law : Addr
  d_law : FuncData
  F_law : Fun K "law" "law" s_law a_law d_law
  m_law : mg "law" = some (.ref a_law)
  b_law : Binds K d_law ["_law_script"] []
  n_abs : mg "abs" = none
  n_all : mg "all" = none
  n_bool : mg "bool" = none
  n_int : mg "int" = none
  n_isinstance : mg "isinstance" = none
  n_len : mg "len" = none
  n_list : mg "list" = none
  n_max : mg "max" = none
  n_range : mg "range" = none
  n_repr : mg "repr" = none
  n_sorted : mg "sorted" = none
  n_sum : mg "sum" = none
  n_tuple : mg "tuple" = none
  n_zip : mg "zip" = none
  kb_tint_at_0_cell_heap : KBinds K d_tint_at ["heap", "cell"] ["cell", "heap"] gkb_tint_at_0_cell_heap gkb_tint_at_0_cell_heapV
  m_gcd : mg "gcd" = some (.builtin "math.gcd")
  a_PRIMES : Addr
  m_PRIMES : mg "PRIMES" = some (.ref a_PRIMES)
  t_PRIMES : ∀ H : Hp, SqT K H a_PRIMES (C_PRIMES.map V.int)
  m_MOST_BREADTH : ∃ t, mg "MOST_BREADTH" = some (.int 3 t)
  m_MOST_PRIMES_MULTIPLIED : ∃ t, mg "MOST_PRIMES_MULTIPLIED" = some (.int 1000 t)
section
variable {K : PySem.W.Frag} {X : Cx} {x : Str} {pos : Pos}
theorem g_PRIMES (T : Txt X.K X.mg) (hg : Gl X "PRIMES") : PE X (.Name "PRIMES" pos) (tC (.ref T.a_PRIMES)) := pe_glob hg T.m_PRIMES rfl
theorem g_MOST_BREADTH (T : Txt X.K X.mg) (hg : Gl X "MOST_BREADTH") : PE X (.Name "MOST_BREADTH" pos) (tC (.int 3)) := by
  obtain ⟨t, e⟩ := T.m_MOST_BREADTH
  exact pe_glob hg e ⟨t, rfl⟩
theorem g_MOST_PRIMES_MULTIPLIED (T : Txt X.K X.mg) (hg : Gl X "MOST_PRIMES_MULTIPLIED") : PE X (.Name "MOST_PRIMES_MULTIPLIED" pos) (tC (.int 1000)) := by
  obtain ⟨t, e⟩ := T.m_MOST_PRIMES_MULTIPLIED
  exact pe_glob hg e ⟨t, rfl⟩
theorem v_int (T : Txt X.K X.mg) (hg : Gl X "int") : PE X (.Name "int" pos) (tC (.ty "int")) := pe_bltn hg T.n_int (by decide +kernel) rfl
theorem v_bool (T : Txt X.K X.mg) (hg : Gl X "bool") : PE X (.Name "bool" pos) (tC (.ty "bool")) := pe_bltn hg T.n_bool (by decide +kernel) rfl
theorem v_tuple (T : Txt X.K X.mg) (hg : Gl X "tuple") : PE X (.Name "tuple" pos) (tC (.ty "tuple")) := pe_bltn hg T.n_tuple (by decide +kernel) rfl
theorem v_list (T : Txt X.K X.mg) (hg : Gl X "list") : PE X (.Name "list" pos) (tC (.ty "list")) := pe_bltn hg T.n_list (by decide +kernel) rfl
end
end KL
namespace KL
open PySem PySem.Spec PyProof.Rows L2 RZ StX SrtO Kw KM
theorem lc_done {H1 H : Hp} {D : Addr} {xs : Nat → List V} {i : Nat} {ys : List V} (h : Lc H1 D xs i H) (e : xs i = ys) : Same H1 H ∧ H D = some (.lst ys) := ⟨h.1, e ▸ h.2⟩
theorem ix_tupK {X : Cx} {K : PySem.W.Frag} (hK : X.K = K := by rfl) : IxR X (rIxT K) := hK ▸ ix_tup
theorem ix_listK {X : Cx} {K : PySem.W.Frag} (hK : X.K = K := by rfl) : IxR X (rIxL K) := hK ▸ ix_list
theorem op_catAK {X : Cx} {K : PySem.W.Frag} (hK : X.K = K := by rfl) : OpR X (binaryOp .Add) (rCatA K) := hK ▸ op_catA
theorem sl_tupAK {X : Cx} {K : PySem.W.Frag} (hK : X.K = K := by rfl) : SlR X (rSlA K) := hK ▸ sl_tupA
end KL
namespace KL
open PySem PySem.Spec PyProof.Rows L2 RZ StX SrtO Kw
section
variable {P : Program} {w : World} {K : PySem.W.Frag} {mg : Str → Option Value} {base : Heap}

/-! ### is_integer, of ints alone -/
def sp_is_integer : Sp := fun vs H Q _ => ∃ i : Int, vs = [.int i] ∧ Q (.bl true) H
theorem ok_is_integer (T : Txt K mg) : FnOk P w K mg base CX0 1 T.a_is_integer T.d_is_integer ["thing"] sp_is_integer := by
  refine T.F_is_integer.ok sc_is_integer (fun vs H Q E h => ?_) (fun cdv A outer s H vs Q E hr h => ?_)
  · obtain ⟨i, rfl, _⟩ := h
    rfl
  obtain ⟨i, rfl, q⟩ := h
  refine ⟨_, pss_one (ps_ret (pe_and (pe_callB call_isi (by rfl) T.n_isinstance (by decide +kernel) (pa_cons (pv 0) (pa_cons (v_int T (by rfl)) pa_nil))) (pe_one (pe_not (pe_callB call_isi (by rfl) T.n_isinstance (by decide +kernel) (pa_cons (pv 0) (pa_cons (v_bool T (by rfl)) pa_nil))))))), ?_⟩
  refine ⟨_, rfl, _, _, _, _, _, rfl, ClsV.ty _, .base (.int i), kit_ty (r := true) (by decide +kernel), true, rfl, iteT ?_⟩
  exact ⟨_, rfl, _, _, _, _, _, rfl, ClsV.ty _, .base (.int i), kit_ty (r := false) (by decide +kernel), false, rfl, q⟩
theorem cl_is_integer {X : Cx} {p pos : Pos} {e : Expr} {es : List Expr} {t : TA} (T : Txt K mg) (hr : Room 1 X.A) (ha : PA X (e :: es) t) (hg : Gl X "is_integer" := by rfl)
    (he : starEach (e :: es) X.env = (false, eval e X.env) :: starEach es X.env := by rfl) (hpl : (backTo pos (starEach es X.env)).any (·.1) = false := by rfl) (hK : X.K = K := by rfl) (hmg : X.mg = mg := by rfl) :
    PE X (.Call (.Name "is_integer" p) (e :: es) [] pos) (tCall sp_is_integer [] E0 t) := by
  subst hK hmg
  exact pe_call (ok_is_integer T) hr hg T.m_is_integer T.F_is_integer.kp T.b_is_integer .nil pass0 ha (by decide) he hpl
/-! ### primes_of -/
def primesOf (n : Int) : List Int := C_PRIMES.filter fun p => decide (n.fmod p = 0)
def sp_primes_of : Sp := fun vs H Q _ => ∃ n : Int, vs = [.int n] ∧ ∀ p H', Same H H' → H p = none → H' p = some (.lst ((primesOf n).map V.int)) → Q (.ref p) H'
theorem PR_pos : ∀ p ∈ C_PRIMES, (2 : Int) ≤ p ∧ p ≤ 29 := by decide
def upto (n : Int) (i : Nat) : List V := ((C_PRIMES.take i).filter fun p => decide (n.fmod p = 0)).map V.int
theorem upto_next {n : Int} {i : Nat} {p : Int} (h : C_PRIMES[i]? = some p) : upto n (i + 1) = if n.fmod p = 0 then upto n i ++ [.int p] else upto n i := by
  unfold upto
  rw [List.take_add_one, h, List.filter_append, List.map_append]
  by_cases c : n.fmod p = 0 <;> simp [c]
theorem upto_len (n : Int) (i : Nat) : (upto n i).length ≤ 10 := by
  unfold upto
  rw [List.length_map]
  refine Nat.le_trans (List.length_filter_le _ _) ?_
  rw [List.length_take]
  exact Nat.min_le_right _ _
theorem upto_all (n : Int) : upto n 10 = (primesOf n).map V.int := rfl
theorem ok_primes_of (T : Txt K mg) : FnOk P w K mg base CX0 1 T.a_primes_of T.d_primes_of ["number"] sp_primes_of := by
  refine T.F_primes_of.ok sc_primes_of (fun vs H Q E h => ?_) (fun cdv A outer s H vs Q E hr h => ?_)
  · obtain ⟨i, rfl, _⟩ := h
    rfl
  obtain ⟨n, rfl, q⟩ := h
  refine ⟨_, pss_one (ps_ret (pe_lc (own := [("p", 1)]) rfl sc_primes_of.nd (pi_tup (g_PRIMES T (by rfl))) (blkOk_by (N := N_primes_of) (sc := defScope s_primes_of) (by decide +kernel)) (fun _ _ _ _ _ => (pg_name (i := 1) sc_primes_of.nd rfl (Or.inl rfl))) (fun _ _ _ _ _ => (pts_one (pt_cmpR op_eq (pe_op op_modN (pv 0) (pv 1)) pe_int (nomark _)))) (fun _ _ _ _ _ => (pv 1)))), ?_⟩
  refine ⟨_, rfl, ⟨_, T.t_PRIMES H⟩, fun D nD => lc_tup (xs := C_PRIMES.map V.int) (Lc H D (upto n)) (lc_start nD rfl) (fun _ _ _ _ => T.t_PRIMES _) (fun i x H1 hx h => ?_) (fun H1 h => ?_)⟩
  · rw [List.getElem?_map] at hx
    obtain ⟨p, hp, rfl⟩ := Option.map_eq_some_iff.mp hx
    have hpp := PR_pos p (List.mem_of_getElem? hp)
    refine ⟨rfl, _, rfl, _, rfl, _, _, rfl, rfl, (by show p ≠ 0; omega), rfl, _, rfl, ?_⟩
    have hn := upto_next (n := n) hp
    refine ite2 (fun c => ?_) (fun c => ?_)
    · have c : n.fmod p = 0 := V.int.inj (of_decide_eq_true c)
      rw [if_pos c] at hn
      exact ⟨_, rfl, lc_leaf nD h.1 h.2 (Nat.le_trans (upto_len n i) (by decide)) hn⟩
    · have c : ¬ n.fmod p = 0 := fun z => c (decide_eq_true (congrArg V.int z))
      rw [if_neg c] at hn
      exact lc_skip h.1 h.2 hn
  · exact q D H1 h.1 nD h.2
end
end KL
namespace KL
open PySem PySem.Spec PyProof.Rows L2 RZ StX SrtO Kw
/-! ### bounds -/
/-- below 2 ^ b in size -/
def Bd (b : Nat) (i : Int) : Prop := i.natAbs < 2 ^ b
theorem Bd.mono {a b : Nat} {i : Int} (h : Bd a i) (l : a ≤ b) : Bd b i := Nat.lt_of_lt_of_le h (Nat.pow_le_pow_right (by decide) l)
theorem Bd.mul {a b : Nat} {i j : Int} (h : Bd a i) (h' : Bd b j) : Bd (a + b) (i * j) := wide_lt h h'
theorem Bd.add {a : Nat} {i j : Int} (h : Bd a i) (h' : Bd a j) : Bd (a + 1) (i + j) := by
  unfold Bd at *
  have := Int.natAbs_add_le i j
  rw [Nat.pow_succ]
  omega
theorem Bd.sub {a : Nat} {i j : Int} (h : Bd a i) (h' : Bd a j) : Bd (a + 1) (i - j) := by
  unfold Bd at *
  rw [Nat.pow_succ]
  omega
theorem Bd.neg {a : Nat} {i : Int} (h : Bd a i) : Bd a (-i) := by
  unfold Bd at *
  omega
theorem Bd.le {a : Nat} {i j : Int} (h0 : 0 ≤ i) (h : i ≤ j) (h' : Bd a j) : Bd a i := by
  unfold Bd at *
  omega
theorem Bd.mulOk {a b : Nat} {i j : Int} (h : Bd a i) (h' : Bd b j) (l : a + b ≤ 90000 := by omega) : CMulW i j := by
  have q : ∀ {c : Nat} {z : Int}, Bd c z → Bd (c + 1) z := fun h => h.mono (Nat.le_succ _)
  exact wide_mul (q h) (q h') (by omega) (by omega) (by omega)
theorem Bd.divOk {b : Nat} {j : Int} (h0 : 0 < j) (h : Bd b j) (l : b ≤ 8000 := by omega) : ∀ i, CDivW i j := fun i =>
  wide_div h0 (h.mono (Nat.le_succ b)) (by omega) (by omega)
theorem ip_mulS {X : Cx} : PIp X .Mult (rI CMul fun i j => .int (i * j)) := by
  intro pins s σ H x y v u Q I rx ry h
  obtain ⟨i, j, rfl, rfl, hc, q⟩ := h
  obtain ⟨t, rfl⟩ := rx
  obtain ⟨t', rfl⟩ := ry
  exact imul_int ⟨.int _, H, I.tok _, ⟨_, rfl⟩, q⟩ hc.ok
theorem emodB (a : Int) {b : Int} (h : 0 < b) : 0 ≤ a % b ∧ a % b < b := ⟨Int.emod_nonneg _ (by omega), Int.emod_lt_of_pos _ h⟩
end KL
namespace KL
open PySem PySem.Spec PyProof.Rows L2 RZ StX SrtO Kw
section
variable {P : Program} {w : World} {K : PySem.W.Frag} {mg : Str → Option Value} {base : Heap}
theorem cl_primes_of {X : Cx} {p pos : Pos} {e : Expr} {es : List Expr} {t : TA} (T : Txt K mg) (hr : Room 1 X.A) (ha : PA X (e :: es) t) (hg : Gl X "primes_of" := by rfl)
    (he : starEach (e :: es) X.env = (false, eval e X.env) :: starEach es X.env := by rfl) (hpl : (backTo pos (starEach es X.env)).any (·.1) = false := by rfl) (hK : X.K = K := by rfl) (hmg : X.mg = mg := by rfl) :
    PE X (.Call (.Name "primes_of" p) (e :: es) [] pos) (tCall sp_primes_of [] E0 t) := by
  subst hK hmg
  exact pe_call (ok_primes_of T) hr hg T.m_primes_of T.F_primes_of.kp T.b_primes_of .nil pass0 ha (by decide) he hpl
/-! ### part_at -/
def sp_part_at : Sp := fun vs H Q _ => ∃ (n p : Nat), vs = [.int n, .int p] ∧ 1 ≤ n ∧ 2 ≤ p ∧ p ≤ 29 ∧ ∀ k : Nat, p ^ k ∣ n → ¬ p ^ (k + 1) ∣ n → Q (.int ((p ^ k : Nat) : Int)) H
theorem ok_part_at (T : Txt K mg) : FnOk P w K mg base CX0 1 T.a_part_at T.d_part_at ["number", "p"] sp_part_at := by
  refine T.F_part_at.ok sc_part_at (fun vs H Q E h => ?_) (fun cdv A outer s H vs Q E hr h => ?_)
  · obtain ⟨n, p, rfl, _⟩ := h
    rfl
  obtain ⟨n, p, rfl, hn, h2, h29, q⟩ := h
  refine ⟨_, pss_cons (ps_set (i := 2) sc_part_at.nd rfl (Or.inl rfl) pe_int)
    (pss_cons (ps_while PassesOwn.never (pt_cmpR op_eq (pe_op op_mod (pv 0) (pv 1)) pe_int (nomark _)) (pss_cons (ps_aug (i := 0) sc_part_at.nd rfl (Or.inl rfl) (pv 1) ip_fdivW)
        (pss_one (ps_aug (i := 2) sc_part_at.nd rfl (Or.inl rfl) (pv 1) ip_mulS))))
    (pss_one (ps_ret (pv 2)))), ?_⟩
  have hp0 : (0 : Int) < p := by omega
  refine ⟨fun m σ H' => ∃ k : Nat, σ = [some (.int (m : Int)), some (.int p), some (.int ((p ^ k : Nat) : Int))] ∧ H = H' ∧ n = p ^ k * m ∧ 1 ≤ m, ⟨n, 0, rfl, rfl, by simp, hn⟩, ?_⟩
  rintro m σ H' ⟨k, rfl, rfl, e, hm⟩
  refine ⟨_, rfl, _, rfl, _, _, rfl, rfl, hp0, rfl, _, rfl, ite2 (fun c => ?_) (fun c => ?_)⟩
  · have c : (m : Int) % p = 0 := V.int.inj (of_decide_eq_true c)
    have c' : m % p = 0 := by omega
    have d := Nat.div_add_mod m p
    have lt : m / p < m := Nat.div_lt_self (by omega) (by omega)
    have pos : 1 ≤ m / p := by
      rcases Nat.eq_zero_or_pos (m / p) with z | z
      · rw [z, c'] at d
        omega
      · exact z
    refine ⟨fun σ H' => ∃ k : Nat, σ = [some (.int ((m / p : Nat) : Int)), some (.int p), some (.int ((p ^ k : Nat) : Int))] ∧ H = H' ∧ n = p ^ k * (m / p) ∧ 1 ≤ m / p, fun σ' H' z => ⟨m / p, lt, z⟩, ?_⟩
    refine ⟨_, rfl, _, rfl, _, _, rfl, rfl, wide_div (b := 5) hp0 (by show (p : Int).natAbs < 32; omega) (by decide) (by decide), ?_⟩
    refine ⟨_, rfl, _, rfl, _, _, rfl, rfl, .inr ⟨by omega, by omega⟩, k + 1, ?_, rfl, ?_, pos⟩
    · rw [Nat.pow_succ]
      rfl
    · rw [Nat.pow_succ, Nat.mul_assoc, e]
      congr 1
      omega
  · have c : ¬ (m : Int) % p = 0 := fun z => c (decide_eq_true (congrArg V.int z))
    have c' : ¬ p ∣ m := fun z => c (by have := Nat.mod_eq_zero_of_dvd z; omega)
    refine ⟨_, rfl, q k ?_ ?_⟩
    · rw [e]
      exact Nat.dvd_mul_right _ _
    · rw [e, Nat.pow_succ]
      exact fun z => c' (Nat.dvd_of_mul_dvd_mul_left (Nat.pow_pos (by omega)) z)
theorem cl_part_at {X : Cx} {p pos : Pos} {e : Expr} {es : List Expr} {t : TA} (T : Txt K mg) (hr : Room 1 X.A) (ha : PA X (e :: es) t) (hg : Gl X "part_at" := by rfl)
    (he : starEach (e :: es) X.env = (false, eval e X.env) :: starEach es X.env := by rfl) (hpl : (backTo pos (starEach es X.env)).any (·.1) = false := by rfl) (hK : X.K = K := by rfl) (hmg : X.mg = mg := by rfl) :
    PE X (.Call (.Name "part_at" p) (e :: es) [] pos) (tCall sp_part_at [] E0 t) := by
  subst hK hmg
  exact pe_call (ok_part_at T) hr hg T.m_part_at T.F_part_at.kp T.b_part_at .nil pass0 ha (by decide) he hpl
/-! ### common_divisor -/
def gcdL (m : Int) (cs : List Int) : Int := cs.foldl (fun g c => ((Nat.gcd g.natAbs c.natAbs : Nat) : Int)) m
def sp_common_divisor (K : PySem.W.Frag) : Sp := fun vs H Q _ => ∃ (m : Int) (a : Addr) (cs : List Int), vs = [.int m, .ref a] ∧ SqT K H a (cs.map V.int) ∧ Q (.int (gcdL m cs)) H
theorem ok_common_divisor (T : Txt K mg) : FnOk P w K mg base CX0 1 T.a_common_divisor T.d_common_divisor ["number", "others"] (sp_common_divisor K) := by
  refine T.F_common_divisor.ok sc_common_divisor (fun vs H Q E h => ?_) (fun cdv A outer s H vs Q E hr h => ?_)
  · obtain ⟨m, a, cs, rfl, _⟩ := h
    rfl
  obtain ⟨m, a, cs, rfl, hs, q⟩ := h
  refine ⟨_, pss_cons (ps_set (i := 2) sc_common_divisor.nd rfl (Or.inl rfl) (pv 0))
    (pss_cons (ps_for PassesOwn.never rfl (pi_tup (pv 1)) (pg_name (i := 3) sc_common_divisor.nd rfl (Or.inl rfl)) (pss_one (ps_set (i := 2) sc_common_divisor.nd rfl (Or.inl rfl) (pe_callBfun cr_gcd (by rfl) T.m_gcd (pa_cons (pv 2) (pa_cons (pv 3) pa_nil))))))
    (pss_one (ps_ret (pv 2)))), ?_⟩
  refine ⟨_, rfl, _, rfl, _, rfl, ⟨_, hs⟩, for_tup (xs := cs.map V.int) (fun i σ H' => ∃ z, σ = [some (.int m), some (.ref a), some (.int (gcdL m (cs.take i))), z] ∧ H = H') ⟨none, rfl, rfl⟩ ?_ ?_ ?_⟩
  · rintro i σ H' _ ⟨z, rfl, rfl⟩
    exact hs
  · rintro i x σ H' hx ⟨z, rfl, rfl⟩
    rw [List.getElem?_map] at hx
    obtain ⟨c, hc, rfl⟩ := Option.map_eq_some_iff.mp hx
    refine ⟨_, rfl, _, rfl, _, _, rfl, some (.int c), ?_, rfl⟩
    rw [List.take_add_one, hc]
    show _ = [_, _, some (V.int (gcdL m (cs.take i ++ [c]))), _]
    unfold gcdL
    rw [List.foldl_append]
    rfl
  · rintro σ H' ⟨z, rfl, rfl⟩
    refine ⟨_, rfl, ?_⟩
    rw [List.length_map, List.take_length]
    exact q
theorem cl_common_divisor {X : Cx} {p pos : Pos} {e : Expr} {es : List Expr} {t : TA} (T : Txt K mg) (hr : Room 1 X.A) (ha : PA X (e :: es) t) (hg : Gl X "common_divisor" := by rfl)
    (he : starEach (e :: es) X.env = (false, eval e X.env) :: starEach es X.env := by rfl) (hpl : (backTo pos (starEach es X.env)).any (·.1) = false := by rfl) (hK : X.K = K := by rfl) (hmg : X.mg = mg := by rfl) :
    PE X (.Call (.Name "common_divisor" p) (e :: es) [] pos) (tCall (sp_common_divisor K) [] E0 t) := by
  subst hK hmg
  exact pe_call (ok_common_divisor T) hr hg T.m_common_divisor T.F_common_divisor.kp T.b_common_divisor .nil pass0 ha (by decide) he hpl
end
end KL
namespace KL
open PySem PySem.Spec PyProof.Rows L2 RZ StX SrtO Kw KM
/-! ### periods -/
def prodP : List (Nat × Nat) → Nat
  | [] => 1
  | x :: r => x.1 * prodP r
abbrev intsN (l : List Nat) : List Int := l.map fun p : Nat => (p : Int)
theorem PR_PN : C_PRIMES = intsN PN := by decide
theorem fmod_dvd {m p : Nat} (hp : 2 ≤ p) : ((m : Int).fmod p = 0) ↔ p ∣ m := by
  rw [Int.fmod_eq_emod_of_nonneg _ (by omega)]
  constructor
  · intro h
    exact Nat.dvd_of_mod_eq_zero (by omega)
  · intro h
    have := Nat.mod_eq_zero_of_dvd h
    omega
theorem primesOf_mOf {pw : List (Nat × Nat)} (h : Pw pw) : primesOf (mOf pw : Nat) = intsN (pw.map (·.1)) := by
  rw [← primes_mOf h]
  unfold primesOf
  rw [PR_PN]
  unfold intsN
  rw [List.filter_map]
  congr 1
  refine List.filter_congr fun p hp => ?_
  have := PN_lt p hp
  show decide (((mOf pw : Nat) : Int).fmod (p : Int) = 0) = decide (p ∣ mOf pw)
  exact decide_eq_decide.mpr (fmod_dvd this.1)
theorem _root_.KM.Pw.drop {pw : List (Nat × Nat)} (h : Pw pw) : ∀ i, Pw (pw.drop i)
  | 0 => h
  | i + 1 => by
    have ih := KM.Pw.drop h i
    rw [show pw.drop (i + 1) = (pw.drop i).tail by simp]
    cases e : pw.drop i with
    | nil => rw [e] at ih; exact ih
    | cons x r => rw [e] at ih; exact ih.tail
theorem mOf_drop_dvd {pw : List (Nat × Nat)} : ∀ i, mOf (pw.drop i) ∣ mOf pw
  | 0 => Nat.dvd_refl _
  | i + 1 => by
    have ih := mOf_drop_dvd (pw := pw) i
    refine Nat.dvd_trans ?_ ih
    rw [show pw.drop (i + 1) = (pw.drop i).tail by simp]
    cases pw.drop i with
    | nil => exact Nat.dvd_refl _
    | cons x r => exact Nat.dvd_mul_left _ _
theorem prodP_append : ∀ (a : List (Nat × Nat)) (x : Nat × Nat), prodP (a ++ [x]) = prodP a * x.1
  | [], x => by simp [prodP]
  | y :: a, x => by
    show y.1 * prodP (a ++ [x]) = y.1 * prodP a * x.1
    rw [prodP_append a x, Nat.mul_assoc]
/-- a period as the program takes it -/
structure Per (pw : List (Nat × Nat)) : Prop where
  ok : Pw pw
  few : prodP pw ≤ 1000
  bd : mOf pw < 2 ^ 2000
def sp_is_period : Sp := fun vs H Q _ => ∃ pw, Per pw ∧ vs = [.int ((mOf pw : Nat) : Int)] ∧ ∀ H', Same H H' → Q (.bl true) H'
section
variable {P : Program} {w : World} {K : PySem.W.Frag} {mg : Str → Option Value} {base : Heap}
theorem ok_is_period (T : Txt K mg) : FnOk P w K mg base CX0 2 T.a_is_period T.d_is_period ["thing"] sp_is_period := by
  refine T.F_is_period.ok sc_is_period (fun vs H Q E h => ?_) (fun cdv A outer s H vs Q E hr h => ?_)
  · obtain ⟨pw, _, rfl, _⟩ := h
    rfl
  obtain ⟨pw, hp, rfl, q⟩ := h
  refine ⟨_, pss_cons (ps_if (PW.pt (pw_or (pt_not (pt_val (cl_is_integer T (hr.mono (by decide)) (pa_cons (pv 0) pa_nil)))) (pw_or1 (pt_cmpR op_lt (pv 0) pe_int (nomark _))))) (pss_one (ps_ret pe_bl)) pss_nil)
    (pss_cons (ps_par (i := 1) (j := 2) (by rfl) sc_is_period.nd rfl rfl (by decide) rfl rfl (pa_cons (pv 0) (pa_cons pe_int pa_nil)) (by rfl))
    (pss_cons (ps_for PassesOwn.never rfl (pi_list (cl_primes_of T (hr.mono (by decide)) (pa_cons (pv 0) pa_nil))) (pg_name (i := 3) sc_is_period.nd rfl (Or.inl rfl)) (pss_cons (ps_aug (i := 1) sc_is_period.nd rfl (Or.inl rfl) (cl_part_at T (hr.mono (by decide)) (pa_cons (pv 1) (pa_cons (pv 3) pa_nil))) ip_fdivW)
        (pss_one (ps_aug (i := 2) sc_is_period.nd rfl (Or.inl rfl) (pv 3) ip_mulS))))
    (pss_one (ps_ret (pe_and (pe_cmpR op_eq (pv 1) pe_int (nomark _)) (pe_one (pe_cmpR op_le (pv 2) (g_MOST_PRIMES_MULTIPLIED T (by rfl)) (nomark _)))))))), ?_⟩
  have hm := mOf_pos hp.ok
  refine ⟨_, rfl, _, rfl, true, rfl, iteF ?_⟩
  refine ⟨_, rfl, _, _, rfl, rfl, _, rfl, ite2 (fun c => ?_) (fun _ => ?_)⟩
  · have c := of_decide_eq_true c
    omega
  refine ⟨_, rfl, _, _, rfl, ?_⟩
  refine ⟨_, rfl, _, rfl, fun a H1 s1 na ea => ?_⟩
  rw [primesOf_mOf hp.ok] at ea
  refine ⟨a, rfl, ⟨_, SqL.of ea⟩, for_list (xs := (intsN (pw.map (·.1))).map V.int) (fun i σ H' => ∃ z, σ = [some (.int ((mOf pw : Nat) : Int)), some (.int ((mOf (pw.drop i) : Nat) : Int)), some (.int ((prodP (pw.take i) : Nat) : Int)), z] ∧ H1 = H') ⟨none, rfl, rfl⟩ ?_ ?_ ?_⟩
  · rintro i σ H' _ ⟨z, rfl, rfl⟩
    exact SqL.of ea
  · rintro i x σ H' hx ⟨z, rfl, rfl⟩
    rw [List.getElem?_map, List.getElem?_map, List.getElem?_map] at hx
    obtain ⟨y, hy, e⟩ : ∃ y, pw[i]? = some y ∧ V.int (y.1 : Int) = x := by
      cases e : pw[i]? with
      | none => rw [e] at hx; cases hx
      | some y => rw [e] at hx; exact ⟨y, rfl, Option.some.inj hx⟩
    subst e
    have hd : pw.drop i = y :: pw.drop (i + 1) := by
      obtain ⟨hi, rfl⟩ := List.getElem?_eq_some_iff.mp hy
      exact List.drop_eq_getElem_cons hi
    have hw := hp.ok.drop i
    have hyP := hp.ok.mem (List.mem_of_getElem? hy)
    have y2 := PN_lt _ hyP
    have hpos := mOf_pos hw
    have hbd : mOf (pw.drop i) < 2 ^ 2000 := Nat.lt_of_le_of_lt (Nat.le_of_dvd (by omega) (mOf_drop_dvd i)) hp.bd
    refine ⟨_, rfl, _, rfl, _, rfl, mOf (pw.drop i), y.1, rfl, hpos, y2.1, y2.2, fun k k1 k2 => ?_⟩
    rw [hd] at k1 k2 hw
    obtain rfl := part_first hw k1 k2
    have e2 : mOf (pw.drop i) = y.1 ^ y.2 * mOf (pw.drop (i + 1)) := by rw [hd]; rfl
    have p0 : 0 < y.1 ^ y.2 := Nat.pow_pos (by omega)
    have lt : y.1 ^ y.2 < 2 ^ 2000 := Nat.lt_of_le_of_lt (Nat.le_of_dvd hpos (by rw [e2]; exact Nat.dvd_mul_right _ _)) hbd
    refine ⟨_, _, rfl, rfl, Bd.divOk (b := 2000) (by omega) (by unfold Bd; omega) (by decide) _, ?_⟩
    refine ⟨_, rfl, _, rfl, _, _, rfl, rfl, .inr ⟨by omega, by omega⟩, some (.int (y.1 : Int)), ?_, rfl⟩
    have e3 : ((mOf (pw.drop i) : Nat) : Int) / ((y.1 ^ y.2 : Nat) : Int) = ((mOf (pw.drop (i + 1)) : Nat) : Int) := by
      rw [e2, ← Int.natCast_ediv, Nat.mul_div_cancel_left _ p0]
    have e4 : ((prodP (pw.take i) : Nat) : Int) * (y.1 : Int) = ((prodP (pw.take (i + 1)) : Nat) : Int) := by
      rw [List.take_add_one, hy]
      show _ = ((prodP (pw.take i ++ [y]) : Nat) : Int)
      rw [prodP_append, Int.natCast_mul]
    rw [← e3, ← e4]
    rfl
  · rintro σ H' ⟨z, rfl, rfl⟩
    have e1 : pw.drop ((intsN (pw.map (·.1))).map V.int).length = [] := by simp
    have e2 : pw.take ((intsN (pw.map (·.1))).map V.int).length = pw := by simp
    rw [e1, e2]
    have few : ((prodP pw : Nat) : Int) ≤ 1000 := by have := hp.few; omega
    refine ⟨_, rfl, rfl, true, rfl, iteT ⟨_, rfl, _, _, rfl, rfl, ?_⟩⟩
    have z := q _ s1
    rw [← decide_eq_true few] at z
    exact z
theorem cl_is_period {X : Cx} {p pos : Pos} {e : Expr} {es : List Expr} {t : TA} (T : Txt K mg) (hr : Room 2 X.A) (ha : PA X (e :: es) t) (hg : Gl X "is_period" := by rfl)
    (he : starEach (e :: es) X.env = (false, eval e X.env) :: starEach es X.env := by rfl) (hpl : (backTo pos (starEach es X.env)).any (·.1) = false := by rfl) (hK : X.K = K := by rfl) (hmg : X.mg = mg := by rfl) :
    PE X (.Call (.Name "is_period" p) (e :: es) [] pos) (tCall sp_is_period [] E0 t) := by
  subst hK hmg
  exact pe_call (ok_is_period T) hr hg T.m_is_period T.F_is_period.kp T.b_is_period .nil pass0 ha (by decide) he hpl
/-! ### cells -/
theorem ty_tup {H : Hp} {a : Addr} {xs : List V} (h : SqT K H a xs) : TyX K H (.ref a) (.type "tuple") := by
  rcases h with (h | ⟨o, h⟩) | ⟨o, its, n, hk, hc, _⟩
  · exact .base (.tup h)
  · exact .fTuple h
  · exact .kTuple hk hc
def sp_is_cell (K : PySem.W.Frag) : Sp := fun vs H Q _ => ∃ (a : Addr) (xs : List Int), vs = [.ref a] ∧ SqT K H a (xs.map V.int) ∧ 1 ≤ xs.length ∧ xs.length ≤ 3 ∧ ∀ H', Same H H' → Q (.bl true) H'
theorem yes_ {σ : L2.St} {H : Hp} {R : Bool → Hp → Prop} (h : R true H) : tYes σ H R := h
theorem all_true : ∀ n, (List.replicate n true).all id = true
  | 0 => rfl
  | n + 1 => by rw [List.replicate_succ, List.all_cons, all_true n]; rfl
theorem ok_is_cell (T : Txt K mg) : FnOk P w K mg base CX0 2 T.a_is_cell T.d_is_cell ["thing"] (sp_is_cell K) := by
  refine T.F_is_cell.ok sc_is_cell (fun vs H Q E h => ?_) (fun cdv A outer s H vs Q E hr h => ?_)
  · obtain ⟨a, xs, rfl, _⟩ := h
    rfl
  obtain ⟨a, xs, rfl, hs, h1, h3, q⟩ := h
  refine ⟨_, pss_cons (ps_if (PW.pt (pw_or (pt_not (pt_val (pe_callB call_isi (by rfl) T.n_isinstance (by decide +kernel) (pa_cons (pv 0) (pa_cons (v_tuple T (by rfl)) pa_nil))))) (pw_or1 (pt_not (pt_chain op_le op_le pe_int (pe_callB call_len_seq (by rfl) T.n_len (by decide +kernel) (pa_cons (pv 0) pa_nil)) (g_MOST_BREADTH T (by rfl))))))) (pss_one (ps_ret pe_bl)) pss_nil)
    (pss_one (ps_ret (pe_callB (cr_all rfl) (by rfl) T.n_all (by decide +kernel) (pa_cons (pe_lc (own := [("number", 1)]) rfl sc_is_cell.nd (pi_tup (pv 0)) (blkOk_by (N := N_is_cell) (sc := defScope s_is_cell) (by decide +kernel)) (fun _ _ _ _ _ => (pg_name (i := 1) sc_is_cell.nd rfl (Or.inl rfl))) (fun _ _ _ _ _ => pts_nil) (fun _ _ _ _ _ => (cl_is_integer T (hr.mono (by decide)) (pa_cons (pv 1) pa_nil)))) pa_nil)))), ?_⟩
  refine ⟨_, rfl, _, _, _, _, true, rfl, ClsV.ty _, ty_tup hs, kit_ty (by decide +kernel), true, rfl, iteF ?_⟩
  have hl : (xs.map V.int).length = xs.length := List.length_map _
  refine ⟨_, rfl, a, _, rfl, .inr hs, _, _, rfl, rfl, true, ?_, iteT ?_⟩
  · exact congrArg V.bl (decide_eq_true (by rw [hl]; omega))
  refine ⟨_, _, rfl, rfl, true, ?_, iteF ?_⟩
  · exact congrArg V.bl (decide_eq_true (by rw [hl]; omega))
  refine ⟨_, rfl, _, rfl, ⟨_, hs⟩, fun D nD => lc_tup (xs := xs.map V.int) (Lc H D fun i => (List.replicate i true).map V.bl) (lc_start nD rfl) (fun _ _ _ h => h.1.sqt hs) (fun i x H1 hx h => ?_) (fun H1 h => ?_)⟩
  · rw [List.getElem?_map] at hx
    obtain ⟨c, hc, rfl⟩ := Option.map_eq_some_iff.mp hx
    have hi : i < xs.length := (List.getElem?_eq_some_iff.mp hc).1
    refine ⟨rfl, yes_ (iteT ?_)⟩
    exact ⟨_, rfl, _, rfl, lc_leaf nD h.1 h.2 (by simp; omega) (by simp [List.replicate_succ'])⟩
  · refine ⟨D, _, rfl, SqL.of h.2, ?_⟩
    rw [all_true]
    exact q H1 h.1
theorem cl_is_cell {X : Cx} {p pos : Pos} {e : Expr} {es : List Expr} {t : TA} (T : Txt K mg) (hr : Room 2 X.A) (ha : PA X (e :: es) t) (hg : Gl X "is_cell" := by rfl)
    (he : starEach (e :: es) X.env = (false, eval e X.env) :: starEach es X.env := by rfl) (hpl : (backTo pos (starEach es X.env)).any (·.1) = false := by rfl) (hK : X.K = K := by rfl) (hmg : X.mg = mg := by rfl) :
    PE X (.Call (.Name "is_cell" p) (e :: es) [] pos) (tCall (sp_is_cell K) [] E0 t) := by
  subst hK hmg
  exact pe_call (ok_is_cell T) hr hg T.m_is_cell T.F_is_cell.kp T.b_is_cell .nil pass0 ha (by decide) he hpl
end
end KL
namespace KL
open PySem PySem.Spec PyProof.Rows L2 RZ StX SrtO Kw KM
/-! ### stripes -/
structure SOk (pw : List (Nat × Nat)) (cs : List Int) (r : Int) : Prop where
  per : Per pw
  l1 : 1 ≤ cs.length
  l3 : cs.length ≤ 3
  c0 : ∀ c ∈ cs, 0 ≤ c ∧ c < (mOf pw : Nat)
  r0 : 0 ≤ r ∧ r < (mOf pw : Nat)
  cop : gcdL (mOf pw : Nat) cs = 1
/-- the tuple (m, c, r) at a -/
structure SAt (K : PySem.W.Frag) (H : Hp) (a : Addr) (m : Nat) (cs : List Int) (r : Int) : Prop where
  at_ : ∃ c, SqT K H a [.int m, .ref c, .int r] ∧ SqT K H c (cs.map V.int)
theorem SAt.mono {K : PySem.W.Frag} {H H' : Hp} {a : Addr} {m : Nat} {cs : List Int} {r : Int} (h : SAt K H a m cs r) (e : Same H H') : SAt K H' a m cs r := by
  obtain ⟨c, h1, h2⟩ := h.at_
  exact ⟨c, e.sqt h1, e.sqt h2⟩
def sp_is_stripe (K : PySem.W.Frag) : Sp := fun vs H Q _ => ∃ (a : Addr) (pw : List (Nat × Nat)) (cs : List Int) (r : Int), vs = [.ref a] ∧ SAt K H a (mOf pw) cs r ∧ SOk pw cs r ∧ ∀ H', Same H H' → Q (.bl true) H'
section
variable {P : Program} {w : World} {K : PySem.W.Frag} {mg : Str → Option Value} {base : Heap}
theorem ok_is_stripe (T : Txt K mg) : FnOk P w K mg base CX0 3 T.a_is_stripe T.d_is_stripe ["thing"] (sp_is_stripe K) := by
  refine T.F_is_stripe.ok sc_is_stripe (fun vs H Q E h => ?_) (fun cdv A outer s H vs Q E hr h => ?_)
  · obtain ⟨a, pw, cs, r, rfl, _⟩ := h
    rfl
  obtain ⟨a, pw, cs, r, rfl, hA, hO, q⟩ := h
  obtain ⟨c, ha, hc⟩ := hA.at_
  refine ⟨_, pss_cons (ps_if (PW.pt (pw_or (pt_not (pt_val (pe_callB call_isi (by rfl) T.n_isinstance (by decide +kernel) (pa_cons (pv 0) (pa_cons (v_tuple T (by rfl)) pa_nil))))) (pw_or1 (pt_cmpR op_ne (pe_callB call_len_seq (by rfl) T.n_len (by decide +kernel) (pa_cons (pv 0) pa_nil)) pe_int (nomark _))))) (pss_one (ps_ret pe_bl)) pss_nil)
    (pss_cons (ps_asg (pv 0) (pg_tup (by rfl) (pgs_cons (pg_name (i := 1) sc_is_stripe.nd rfl (Or.inr rfl)) (pgs_cons (pg_name (i := 2) sc_is_stripe.nd rfl (Or.inl rfl)) (pgs_cons (pg_name (i := 3) sc_is_stripe.nd rfl (Or.inl rfl)) pgs_nil)))))
    (pss_cons (ps_if (PW.pt (pw_or (pt_not (pt_val (cl_is_period T (hr.mono (by decide)) (pa_cons (pv 1) pa_nil)))) (pw_or (pt_not (pt_val (cl_is_cell T (hr.mono (by decide)) (pa_cons (pv 2) pa_nil)))) (pw_or1 (pt_not (pt_val (cl_is_integer T (hr.mono (by decide)) (pa_cons (pv 3) pa_nil)))))))) (pss_one (ps_ret pe_bl)) pss_nil)
    (pss_cons (ps_if (pt_not (pt_val (pe_callB (cr_all rfl) (by rfl) T.n_all (by decide +kernel) (pa_cons (pe_lc (own := [("number", 4)]) rfl sc_is_stripe.nd (pi_tup (pe_tup (pa_star (pv 2) (pa_cons (pv 3) pa_nil)))) (blkOk_by (N := N_is_stripe) (sc := defScope s_is_stripe) (by decide +kernel)) (fun _ _ _ _ _ => (pg_name (i := 4) sc_is_stripe.nd rfl (Or.inl rfl))) (fun _ _ _ _ _ => pts_nil) (fun _ _ _ _ _ => (pe_chain op_le op_lt pe_int (pv 4) (pv 1)))) pa_nil)))) (pss_one (ps_ret pe_bl)) pss_nil)
    (pss_one (ps_ret (pe_cmpR op_eq (cl_common_divisor T (hr.mono (by decide)) (pa_cons (pv 1) (pa_cons (pv 2) pa_nil))) pe_int (nomark _))))))), ?_⟩
  refine ⟨_, rfl, _, _, _, _, true, rfl, ClsV.ty _, ty_tup ha, kit_ty (by decide +kernel), true, rfl, iteF ?_⟩
  refine ⟨_, rfl, a, _, rfl, .inr ha, rfl, _, rfl, iteF ?_⟩
  refine ⟨_, rfl, a, _, rfl, ha, rfl, _, _, rfl, _, _, rfl, _, _, rfl, rfl, ?_⟩
  refine ⟨_, rfl, pw, hO.per, rfl, fun H1 s1 => ⟨true, rfl, iteF ?_⟩⟩
  refine ⟨_, rfl, c, cs, rfl, s1.sqt hc, hO.l1, hO.l3, fun H2 s2 => ⟨true, rfl, iteF ?_⟩⟩
  refine ⟨_, rfl, r, rfl, true, rfl, iteF ?_⟩
  have s12 := s1.trans s2
  have n4 : (cs.map V.int ++ [V.int r]).length = cs.length + 1 := by simp
  have l3 := hO.l3
  refine ⟨_, rfl, c, _, rfl, .inl (s12.sqt hc), _, rfl, ?_, fun t nt => ?_⟩
  · show (cs.map V.int ++ [V.int r]).length ≤ sizeLine
    rw [n4]
    exact Nat.le_trans (show cs.length + 1 ≤ 4 by omega) (by decide)
  have s3 := same_new nt (.tup (cs.map V.int ++ [V.int r]))
  have ht : SqT K (upd H2 t (.tup (cs.map V.int ++ [V.int r]))) t ((cs ++ [r]).map V.int) := by
    rw [List.map_append]
    exact SqT.of upd_same
  refine ⟨t, rfl, ⟨_, ht⟩, fun D nD => lc_tup (xs := (cs ++ [r]).map V.int) (Lc _ D fun i => (List.replicate i true).map V.bl) (lc_start nD rfl) (fun _ _ _ h => h.1.sqt ht) (fun i x H3 hx h => ?_) (fun H3 h => ?_)⟩
  · rw [List.getElem?_map] at hx
    obtain ⟨z, hz, rfl⟩ := Option.map_eq_some_iff.mp hx
    have hi := (List.getElem?_eq_some_iff.mp hz).1
    rw [List.length_append] at hi
    have hb : 0 ≤ z ∧ z < (mOf pw : Nat) := by
      rcases List.mem_append.mp (List.mem_of_getElem? hz) with k | k
      · exact hO.c0 z k
      · rw [List.mem_singleton.mp k]
        exact hO.r0
    refine ⟨rfl, yes_ (iteT ?_)⟩
    refine ⟨_, rfl, _, _, rfl, rfl, true, congrArg V.bl (decide_eq_true hb.1), iteT ?_⟩
    refine ⟨_, rfl, _, _, rfl, rfl, ?_⟩
    refine lc_leaf nD h.1 h.2 (by simp only [List.length_map, List.length_replicate]; simp at hi; omega) ?_
    show (List.replicate (i + 1) true).map V.bl = (List.replicate i true).map V.bl ++ [V.bl (decide (z < ((mOf pw : Nat) : Int)))]
    rw [decide_eq_true hb.2]
    simp [List.replicate_succ']
  · refine ⟨D, _, rfl, SqL.of h.2, ?_⟩
    rw [all_true]
    refine ⟨true, rfl, iteF ?_⟩
    have s4 := (s12.trans s3).trans h.1
    refine ⟨_, rfl, _, rfl, _, c, cs, rfl, s4.sqt hc, ?_⟩
    refine ⟨rfl, ?_⟩
    have z := q H3 s4
    rw [← decide_eq_true (congrArg V.int hO.cop)] at z
    exact z
theorem cl_is_stripe {X : Cx} {p pos : Pos} {e : Expr} {es : List Expr} {t : TA} (T : Txt K mg) (hr : Room 3 X.A) (ha : PA X (e :: es) t) (hg : Gl X "is_stripe" := by rfl)
    (he : starEach (e :: es) X.env = (false, eval e X.env) :: starEach es X.env := by rfl) (hpl : (backTo pos (starEach es X.env)).any (·.1) = false := by rfl) (hK : X.K = K := by rfl) (hmg : X.mg = mg := by rfl) :
    PE X (.Call (.Name "is_stripe" p) (e :: es) [] pos) (tCall (sp_is_stripe K) [] E0 t) := by
  subst hK hmg
  exact pe_call (ok_is_stripe T) hr hg T.m_is_stripe T.F_is_stripe.kp T.b_is_stripe .nil pass0 ha (by decide) he hpl
def sp_check_stripe (K : PySem.W.Frag) : Sp := fun vs H Q _ => ∃ (a : Addr) (pw : List (Nat × Nat)) (cs : List Int) (r : Int), vs = [.ref a] ∧ SAt K H a (mOf pw) cs r ∧ SOk pw cs r ∧ ∀ H', Same H H' → Q .non H'
theorem ok_check_stripe (T : Txt K mg) : FnOk P w K mg base CX0 4 T.a_check_stripe T.d_check_stripe ["thing"] (sp_check_stripe K) := by
  refine T.F_check_stripe.ok sc_check_stripe (fun vs H Q E h => ?_) (fun cdv A outer s H vs Q E hr h => ?_)
  · obtain ⟨a, pw, cs, r, rfl, _⟩ := h
    rfl
  obtain ⟨a, pw, cs, r, rfl, hA, hO, q⟩ := h
  refine ⟨_, pss_one (ps_if (pt_not (pt_val (cl_is_stripe T (hr.mono (by decide)) (pa_cons (pv 0) pa_nil)))) (pss_one ps_never) pss_nil), ?_⟩
  exact ⟨_, rfl, a, pw, cs, r, rfl, hA, hO, fun H1 s1 => ⟨true, rfl, iteF (q H1 s1)⟩⟩
theorem cl_check_stripe {X : Cx} {p pos : Pos} {e : Expr} {es : List Expr} {t : TA} (T : Txt K mg) (hr : Room 4 X.A) (ha : PA X (e :: es) t) (hg : Gl X "check_stripe" := by rfl)
    (he : starEach (e :: es) X.env = (false, eval e X.env) :: starEach es X.env := by rfl) (hpl : (backTo pos (starEach es X.env)).any (·.1) = false := by rfl) (hK : X.K = K := by rfl) (hmg : X.mg = mg := by rfl) :
    PE X (.Call (.Name "check_stripe" p) (e :: es) [] pos) (tCall (sp_check_stripe K) [] E0 t) := by
  subst hK hmg
  exact pe_call (ok_check_stripe T) hr hg T.m_check_stripe T.F_check_stripe.kp T.b_check_stripe .nil pass0 ha (by decide) he hpl
/-! ### products across -/
def dotI (cs xs : List Int) : Int := (List.zipWith (fun a b => a * b) cs xs).sum
--#fn dot
def sp_dot (K : PySem.W.Frag) : Sp := fun vs H Q _ => ∃ (a b : Addr) (cs xs : List Int), vs = [.ref a, .ref b] ∧ SqT K H a (cs.map V.int) ∧ SqT K H b (xs.map V.int) ∧ cs.length = xs.length ∧ cs.length ≤ 3 ∧
  (∀ c ∈ cs, Bd 2000 c) ∧ (∀ x ∈ xs, Bd 2000 x) ∧ ∀ H', Same H H' → Q (.int (dotI cs xs)) H'
theorem ok_dot (T : Txt K mg) : FnOk P w K mg base CX0 1 T.a_dot T.d_dot ["c", "x"] (sp_dot K) := by
  refine T.F_dot.ok sc_dot (fun vs H Q E h => ?_) (fun cdv A outer s H vs Q E hr h => ?_)
  · obtain ⟨a, b, cs, xs, rfl, _⟩ := h
    rfl
  obtain ⟨a, b, cs, xs, rfl, ha, hb, hl, h3, hcb, hxb, q⟩ := h
  refine ⟨_, pss_one (ps_ret (pe_callB (cr_sum rfl) (by rfl) T.n_sum (by decide +kernel) (pa_cons (pe_lc (own := [("number", 2), ("along", 3)]) (g := gTup K 2 (gCons (gName 2) (gCons (gName 3) gNil))) rfl sc_dot.nd (pi_zipA (by rfl) T.n_zip (pa_cons (pv 0) (pa_cons (pv 1) pa_nil))) (blkOk_by (N := N_dot) (sc := defScope s_dot) (by decide +kernel)) (fun _ _ _ _ _ => (pg_tup (by rfl) (pgs_cons (pg_name (i := 2) sc_dot.nd rfl (Or.inl rfl)) (pgs_cons (pg_name (i := 3) sc_dot.nd rfl (Or.inl rfl)) pgs_nil)))) (fun _ _ _ _ _ => pts_nil) (fun _ _ _ _ _ => (pe_op op_mulW (pv 2) (pv 3)))) pa_nil))), ?_⟩
  have hl' : (cs.map V.int).length = (xs.map V.int).length := by simp [hl]
  refine ⟨_, rfl, _, rfl, a, b, _, _, rfl, .inr ⟨ha, hb, fun D nD => lc_zipT hl' (Lc H D fun i => ((List.zipWith (fun a b => a * b) cs xs).take i).map V.int) (lc_start nD rfl) (fun _ _ h => ⟨h.1.sqt ha, h.1.sqt hb⟩) (fun i x y t H1 hx hy h nt => ?_) (fun H1 h => ?_)⟩⟩
  · rw [List.getElem?_map] at hx hy
    obtain ⟨c, hc, rfl⟩ := Option.map_eq_some_iff.mp hx
    obtain ⟨z, hz, rfl⟩ := Option.map_eq_some_iff.mp hy
    have sT := same_new nt (.tup [V.int c, V.int z])
    refine ⟨t, _, rfl, SqT.of upd_same, rfl, _, _, rfl, _, _, rfl, rfl, rfl, yes_ (iteT ?_)⟩
    refine ⟨_, rfl, _, rfl, _, _, rfl, rfl, (hcb c (List.mem_of_getElem? hc)).mulOk (hxb z (List.mem_of_getElem? hz)), ?_⟩
    refine lc_leaf nD (h.1.trans sT) (sT _ _ h.2) ?_ ?_
    · simp only [List.length_map, List.length_take, List.length_zipWith]
      omega
    · have e : (List.zipWith (fun a b => a * b) cs xs)[i]? = some (c * z) := by
        rw [List.getElem?_zipWith, hc, hz]
      rw [List.take_add_one, e, List.map_append]
      rfl
  · refine ⟨D, List.zipWith (fun a b => a * b) cs xs, rfl, ?_, q H1 h.1⟩
    have e : H1 D = some (.lst (((List.zipWith (fun a b => a * b) cs xs).take (cs.map V.int).length).map V.int)) := h.2
    rw [List.take_of_length_le (by simp; omega)] at e
    exact SqL.of e
theorem cl_dot {X : Cx} {p pos : Pos} {e : Expr} {es : List Expr} {t : TA} (T : Txt K mg) (hr : Room 1 X.A) (ha : PA X (e :: es) t) (hg : Gl X "dot" := by rfl)
    (he : starEach (e :: es) X.env = (false, eval e X.env) :: starEach es X.env := by rfl) (hpl : (backTo pos (starEach es X.env)).any (·.1) = false := by rfl) (hK : X.K = K := by rfl) (hmg : X.mg = mg := by rfl) :
    PE X (.Call (.Name "dot" p) (e :: es) [] pos) (tCall (sp_dot K) [] E0 t) := by
  subst hK hmg
  exact pe_call (ok_dot T) hr hg T.m_dot T.F_dot.kp T.b_dot .nil pass0 ha (by decide) he hpl
--#fn lies_on
def sp_lies_on (K : PySem.W.Frag) : Sp := fun vs H Q _ => ∃ (a b : Addr) (m : Nat) (cs xs : List Int) (r : Int), vs = [.ref a, .ref b] ∧ SAt K H a m cs r ∧ SqT K H b (xs.map V.int) ∧ cs.length = xs.length ∧ cs.length ≤ 3 ∧ 1 ≤ m ∧
  (∀ c ∈ cs, Bd 2000 c) ∧ (∀ x ∈ xs, Bd 2000 x) ∧ ∀ H', Same H H' → Q (.bl (decide ((dotI cs xs - r) % m = 0))) H'
theorem ok_lies_on (T : Txt K mg) : FnOk P w K mg base CX0 2 T.a_lies_on T.d_lies_on ["stripe", "cell"] (sp_lies_on K) := by
  refine T.F_lies_on.ok sc_lies_on (fun vs H Q E h => ?_) (fun cdv A outer s H vs Q E hr h => ?_)
  · obtain ⟨a, b, m, cs, xs, r, rfl, _⟩ := h
    rfl
  obtain ⟨a, b, m, cs, xs, r, rfl, hA, hb, hl, h3, hm, hcb, hxb, q⟩ := h
  obtain ⟨c, ha, hc⟩ := hA.at_
  refine ⟨_, pss_cons (ps_asg (pv 0) (pg_tup (by rfl) (pgs_cons (pg_name (i := 2) sc_lies_on.nd rfl (Or.inl rfl)) (pgs_cons (pg_name (i := 3) sc_lies_on.nd rfl (Or.inl rfl)) (pgs_cons (pg_name (i := 4) sc_lies_on.nd rfl (Or.inl rfl)) pgs_nil)))))
    (pss_one (ps_ret (pe_cmpR op_eq (pe_op op_mod (pe_op op_sub (cl_dot T (hr.mono (by decide)) (pa_cons (pv 3) (pa_cons (pv 1) pa_nil))) (pv 4)) (pv 2)) pe_int (nomark _)))), ?_⟩
  refine ⟨_, rfl, a, _, rfl, ha, rfl, _, _, rfl, _, _, rfl, _, _, rfl, rfl, ?_⟩
  refine ⟨_, rfl, _, rfl, c, b, cs, xs, rfl, hc, hb, hl, h3, hcb, hxb, fun H1 s1 => ?_⟩
  refine ⟨_, rfl, _, _, rfl, rfl, _, rfl, _, _, rfl, rfl, (by omega), rfl, ?_⟩
  have z := q H1 s1
  have e : decide ((dotI cs xs - r) % (m : Int) = 0) = decide (V.int ((dotI cs xs - r) % (m : Int)) = V.int 0) := decide_eq_decide.mpr ⟨fun h => congrArg V.int h, V.int.inj⟩
  rw [e] at z
  exact z
theorem cl_lies_on {X : Cx} {p pos : Pos} {e : Expr} {es : List Expr} {t : TA} (T : Txt K mg) (hr : Room 2 X.A) (ha : PA X (e :: es) t) (hg : Gl X "lies_on" := by rfl)
    (he : starEach (e :: es) X.env = (false, eval e X.env) :: starEach es X.env := by rfl) (hpl : (backTo pos (starEach es X.env)).any (·.1) = false := by rfl) (hK : X.K = K := by rfl) (hmg : X.mg = mg := by rfl) :
    PE X (.Call (.Name "lies_on" p) (e :: es) [] pos) (tCall (sp_lies_on K) [] E0 t) := by
  subst hK hmg
  exact pe_call (ok_lies_on T) hr hg T.m_lies_on T.F_lies_on.kp T.b_lies_on .nil pass0 ha (by decide) he hpl
--#fn is_on
/-! ### is_on -/
def sp_is_on (K : PySem.W.Frag) : Sp := fun vs H Q _ => ∃ (a b : Addr) (pw : List (Nat × Nat)) (cs xs : List Int) (r : Int), vs = [.ref a, .ref b] ∧ SAt K H a (mOf pw) cs r ∧ SOk pw cs r ∧ SqT K H b (xs.map V.int) ∧ cs.length = xs.length ∧
  (∀ x ∈ xs, Bd 2000 x) ∧ ∀ H', Same H H' → Q (.bl (decide ((dotI cs xs - r) % (mOf pw : Nat) = 0))) H'
--#all
theorem SOk.bd {pw : List (Nat × Nat)} {cs : List Int} {r : Int} (h : SOk pw cs r) : ∀ c ∈ cs, Bd 2000 c := fun c hc => by
  have := h.c0 c hc
  have := h.per.bd
  unfold Bd
  omega
--#fn is_on
theorem ok_is_on (T : Txt K mg) : FnOk P w K mg base CX0 5 T.a_is_on T.d_is_on ["stripe", "cell"] (sp_is_on K) := by
  refine T.F_is_on.ok sc_is_on (fun vs H Q E h => ?_) (fun cdv A outer s H vs Q E hr h => ?_)
  · obtain ⟨a, b, pw, cs, xs, r, rfl, _⟩ := h
    rfl
  obtain ⟨a, b, pw, cs, xs, r, rfl, hA, hO, hb, hl, hxb, q⟩ := h
  obtain ⟨c, ha, hc⟩ := hA.at_
  refine ⟨_, pss_cons (ps_expr (cl_check_stripe T (hr.mono (by decide)) (pa_cons (pv 0) pa_nil)))
    (pss_cons (ps_if (PW.pt (pw_or (pt_not (pt_val (cl_is_cell T (hr.mono (by decide)) (pa_cons (pv 1) pa_nil)))) (pw_or1 (pt_cmpR op_ne (pe_callB call_len_seq (by rfl) T.n_len (by decide +kernel) (pa_cons (pv 1) pa_nil)) (pe_callB call_len_seq (by rfl) T.n_len (by decide +kernel) (pa_cons (pe_ix ix_tup (pv 0) pe_int (fun _ _ => rfl)) pa_nil)) (nomark _))))) (pss_one ps_never) pss_nil)
    (pss_one (ps_ret (cl_lies_on T (hr.mono (by decide)) (pa_cons (pv 0) (pa_cons (pv 1) pa_nil)))))), ?_⟩
  have l1 := hO.l1
  have l3 := hO.l3
  refine ⟨_, rfl, a, pw, cs, r, rfl, hA, hO, fun H1 s1 => ?_⟩
  refine ⟨_, rfl, b, xs, rfl, s1.sqt hb, by omega, by omega, fun H2 s2 => ⟨true, rfl, iteF ?_⟩⟩
  have s12 := s1.trans s2
  refine ⟨_, rfl, b, _, rfl, .inr (s12.sqt hb), _, rfl, a, _, 1, .ref c, rfl, rfl, s12.sqt ha, rfl, c, _, rfl, .inr (s12.sqt hc), rfl, false, ?_, iteF ?_⟩
  · rw [List.length_map, List.length_map, hl]
    simp
  refine ⟨_, rfl, _, rfl, a, b, mOf pw, cs, xs, r, rfl, hA.mono s12, s12.sqt hb, hl, l3, mOf_pos hO.per.ok, hO.bd, hxb, fun H3 s3 => q H3 (s12.trans s3)⟩
theorem cl_is_on {X : Cx} {p pos : Pos} {e : Expr} {es : List Expr} {t : TA} (T : Txt K mg) (hr : Room 5 X.A) (ha : PA X (e :: es) t) (hg : Gl X "is_on" := by rfl)
    (he : starEach (e :: es) X.env = (false, eval e X.env) :: starEach es X.env := by rfl) (hpl : (backTo pos (starEach es X.env)).any (·.1) = false := by rfl) (hK : X.K = K := by rfl) (hmg : X.mg = mg := by rfl) :
    PE X (.Call (.Name "is_on" p) (e :: es) [] pos) (tCall (sp_is_on K) [] E0 t) := by
  subst hK hmg
  exact pe_call (ok_is_on T) hr hg T.m_is_on T.F_is_on.kp T.b_is_on .nil pass0 ha (by decide) he hpl
end
--#all
end KL
namespace KL
open PySem PySem.Spec PyProof.Rows L2 RZ StX SrtO Kw KM
abbrev qOf (x : Nat × Nat) : Nat := x.1 ^ x.2
/-- what is drawn of periods: below 10 ^ 40 -/
structure PerD (pw : List (Nat × Nat)) : Prop where
  ok : Pw pw
  few : prodP pw ≤ 1000
  lt : mOf pw < 10 ^ 40
theorem PerD.per {pw : List (Nat × Nat)} (h : PerD pw) : Per pw := ⟨h.ok, h.few, Nat.lt_trans h.lt (by decide)⟩
theorem qOf_le {pw : List (Nat × Nat)} (h : Pw pw) {x : Nat × Nat} (hx : x ∈ pw) : 1 ≤ qOf x ∧ qOf x ≤ mOf pw := by
  have := mOf_pos h
  have d := part_dvd_mOf h hx
  have := PN_lt _ (h.mem hx)
  exact ⟨Nat.pow_pos (by omega), Nat.le_of_dvd (by omega) d⟩
/-- m // q is divisible by every other prime of m, not by the one of q -/
theorem cof_dvd {pw : List (Nat × Nat)} (h : Pw pw) {x y : Nat × Nat} (hx : x ∈ pw) (hy : y ∈ pw) : y.1 ∣ mOf pw / qOf x ↔ y.1 ≠ x.1 := by
  have hxP := h.mem hx
  have hyP := h.mem hy
  have qx := qOf_le h hx
  have d := part_dvd_mOf h hx
  have e : mOf pw = qOf x * (mOf pw / qOf x) := (Nat.mul_div_cancel' d).symm
  constructor
  · intro dv ex
    -- then a higher power of the prime would divide
    have d2 : x.1 ^ (x.2 + 1) ∣ mOf pw := by
      rw [e, Nat.pow_succ]
      rw [ex] at dv
      exact Nat.mul_dvd_mul (Nat.dvd_refl _) dv
    clear e dv ex
    revert d2
    clear d qx hyP hy
    induction pw with
    | nil => cases hx
    | cons z r ih =>
      intro d2
      rcases List.mem_cons.mp hx with rfl | hx'
      · have := PN_lt _ hxP
        rw [Nat.pow_succ] at d2
        have d3 : x.1 ∣ mOf r := Nat.dvd_of_mul_dvd_mul_left (Nat.pow_pos (by omega)) (show x.1 ^ x.2 * x.1 ∣ x.1 ^ x.2 * mOf r from d2)
        exact (List.nodup_cons.mp h.nodup).1 ((dvd_mOf hxP h.tail).mp d3)
      · refine ih h.tail hx' ?_
        have c : Nat.Coprime (x.1 ^ (x.2 + 1)) (z.1 ^ z.2) := by
          refine cop_pow (Nat.Coprime.symm (cop_pow (cop_of (h.mem List.mem_cons_self) fun dd => ?_) _)) _
          have ez := eq_of_dvd (h.mem List.mem_cons_self) hxP dd
          exact (List.nodup_cons.mp h.nodup).1 (by show z.1 ∈ r.map (fun y => y.1); rw [ez]; exact List.mem_map_of_mem (f := fun y : Nat × Nat => y.1) hx')
        exact c.dvd_of_dvd_mul_left (show _ ∣ z.1 ^ z.2 * mOf r from d2)
  · intro ne
    have dm : y.1 ∣ mOf pw := (dvd_mOf hyP h).mpr (List.mem_map_of_mem hy)
    rw [e] at dm
    rcases dvd_mul_of hyP dm with q | q
    · exact absurd (eq_of_dvd hyP hxP (dvd_pow_of hyP q)) ne
    · exact q
theorem mulB {n u B C : Nat} (h : u < (n + 1) * B) (hn : n ≤ 10) (hB : 11 * B < C) : u < C :=
  Nat.lt_of_lt_of_le h (Nat.le_trans (Nat.mul_le_mul_right B (show n + 1 ≤ 11 by omega)) (Nat.le_of_lt hB))
theorem pw_len {pw : List (Nat × Nat)} (h : Pw pw) : pw.length ≤ 10 := by
  have := h.sub.length_le
  simpa [PN] using this
theorem dot_cons (c x : Int) (cs xs : List Int) : dotI (c :: cs) (x :: xs) = c * x + dotI cs xs := by
  unfold dotI
  rw [List.zipWith_cons_cons, List.sum_cons]
end KL
namespace KL
open PySem PySem.Spec PyProof.Rows L2 RZ StX SrtO Kw KM
theorem gcdL_dvd : ∀ (cs : List Int) (m : Int), (gcdL m cs).natAbs ∣ m.natAbs ∧ ∀ c ∈ cs, (gcdL m cs).natAbs ∣ c.natAbs
  | [], m => ⟨Nat.dvd_refl _, fun c h => absurd h List.not_mem_nil⟩
  | x :: r, m => by
    have ih := gcdL_dvd r ((Nat.gcd m.natAbs x.natAbs : Nat) : Int)
    have e : gcdL m (x :: r) = gcdL ((Nat.gcd m.natAbs x.natAbs : Nat) : Int) r := rfl
    rw [e]
    have d := ih.1
    rw [Int.natAbs_natCast] at d
    refine ⟨Nat.dvd_trans d (Nat.gcd_dvd_left _ _), fun c hc => ?_⟩
    rcases List.mem_cons.mp hc with rfl | hc
    · exact Nat.dvd_trans d (Nat.gcd_dvd_right _ _)
    · exact ih.2 c hc
theorem gcdL_nonneg : ∀ (cs : List Int) (m : Int), 0 ≤ m → 0 ≤ gcdL m cs
  | [], m, h => h
  | x :: r, m, _ => gcdL_nonneg r _ (Int.natCast_nonneg _)
theorem gcdL_one {pw : List (Nat × Nat)} (h : Pw pw) {cs : List Int} (ok : ∀ x ∈ pw, ∃ c ∈ cs, ¬ (x.1 : Int) ∣ c) : gcdL (mOf pw : Nat) cs = 1 := by
  have d := gcdL_dvd cs ((mOf pw : Nat) : Int)
  rw [Int.natAbs_natCast] at d
  have n0 := gcdL_nonneg cs ((mOf pw : Nat) : Int) (Int.natCast_nonneg _)
  have g1 := prime_in h d.1 fun x hx dv => by
    obtain ⟨c, hc, nd⟩ := ok x hx
    exact nd (Int.ofNat_dvd_left.mpr (Nat.dvd_trans dv (d.2 c hc)))
  omega
theorem gcdL_mem : ∀ (cs : List Int) (m : Int) (p : Nat), p ∣ m.natAbs → (∀ c ∈ cs, p ∣ c.natAbs) → p ∣ (gcdL m cs).natAbs
  | [], m, p, h, _ => h
  | x :: r, m, p, h, hc => by
    refine gcdL_mem r ((Nat.gcd m.natAbs x.natAbs : Nat) : Int) p ?_ fun c h => hc c (List.mem_cons_of_mem _ h)
    rw [Int.natAbs_natCast]
    exact Nat.dvd_gcd h (hc x List.mem_cons_self)
theorem SOk.free {pw : List (Nat × Nat)} {cs : List Int} {r : Int} (h : SOk pw cs r) {x : Nat × Nat} (hx : x ∈ pw) : ∃ c ∈ cs, ¬ (x.1 : Int) ∣ c := by
  have hp := h.per.ok.mem hx
  have p2 := PN_lt _ hp
  refine Classical.byContradiction fun no => ?_
  have all : ∀ c ∈ cs, x.1 ∣ c.natAbs := fun c hc => by
    refine Classical.byContradiction fun nd => no ⟨c, hc, fun z => nd (Int.ofNat_dvd_left.mp z)⟩
  have d := gcdL_mem cs ((mOf pw : Nat) : Int) x.1 (by rw [Int.natAbs_natCast]; exact (dvd_mOf hp h.per.ok).mpr (List.mem_map_of_mem hx)) all
  rw [h.cop] at d
  have := Nat.le_of_dvd (by decide) d
  have : (1 : Int).natAbs = 1 := rfl
  omega
theorem Pw.single {pw : List (Nat × Nat)} (h : Pw pw) {x : Nat × Nat} (hx : x ∈ pw) : Pw [x] :=
  ⟨List.singleton_sublist.mpr (h.mem hx), fun y hy => by rw [List.mem_singleton.mp hy]; exact h.pos x hx⟩
theorem mOf_single (x : Nat × Nat) : mOf [x] = qOf x := Nat.mul_one _
theorem dot_mod (q : Int) : ∀ (cs xs : List Int), (dotI (cs.map fun c => c % q) xs) % q = (dotI cs xs) % q
  | [], xs => rfl
  | c :: cs, [] => rfl
  | c :: cs, x :: xs => by
    have ih := dot_mod q cs xs
    rw [List.map_cons, dot_cons, dot_cons, Int.add_emod, ih, ← Int.add_emod, Int.add_emod, Int.mul_emod, Int.emod_emod, ← Int.mul_emod, ← Int.add_emod]
theorem part_due {q : Int} (cs xs : List Int) (r : Int) : (dotI (cs.map fun c => c % q) xs - r % q) % q = (dotI cs xs - r) % q := by
  rw [Int.sub_emod, dot_mod, Int.emod_emod, ← Int.sub_emod]
/-- a part of a stripe is a stripe -/
theorem SOk.part {pw : List (Nat × Nat)} {cs : List Int} {r : Int} (h : SOk pw cs r) {x : Nat × Nat} (hx : x ∈ pw) :
    SOk [x] (cs.map fun c => c % ((qOf x : Nat) : Int)) (r % ((qOf x : Nat) : Int)) := by
  have hp := h.per.ok.mem hx
  have p2 := PN_lt _ hp
  have ql := qOf_le h.per.ok hx
  have q0 : (0 : Int) < ((qOf x : Nat) : Int) := by omega
  refine ⟨⟨Pw.single h.per.ok hx, ?_, ?_⟩, by simpa using h.l1, by simpa using h.l3, ?_, ?_, ?_⟩
  · show x.1 * 1 ≤ 1000
    omega
  · rw [mOf_single]
    exact Nat.lt_of_le_of_lt ql.2 h.per.bd
  · intro c hc
    obtain ⟨c0, _, rfl⟩ := List.mem_map.mp hc
    rw [mOf_single]
    exact emodB _ q0
  · rw [mOf_single]
    exact emodB _ q0
  · refine gcdL_one (Pw.single h.per.ok hx) fun y hy => ?_
    obtain rfl := List.mem_singleton.mp hy
    obtain ⟨c, hc, nd⟩ := h.free hx
    refine ⟨c % ((qOf y : Nat) : Int), List.mem_map_of_mem hc, fun z => nd ?_⟩
    have pq : (y.1 : Int) ∣ ((qOf y : Nat) : Int) := by
      rw [Int.natCast_dvd_natCast]
      have := h.per.ok.pos y hx
      refine ⟨y.1 ^ (y.2 - 1), ?_⟩
      show y.1 ^ y.2 = _
      rw [Nat.mul_comm, ← Nat.pow_succ]
      congr 1
      omega
    have e := Int.emod_add_mul_ediv c ((qOf y : Nat) : Int)
    rw [← e]
    exact Int.dvd_add z (Int.dvd_trans pq (Int.dvd_mul_right _ _))
end KL
namespace KL
open PySem PySem.Spec PyProof.Rows L2 RZ StX SrtO Kw KM
/-! ### normal numbers: plain mathematics -/
theorem bez (a b : Nat) : ∃ u v : Int, u * a + v * b = ((Nat.gcd a b : Nat) : Int) := by
  induction a, b using Nat.gcd.induction with
  | H0 n => exact ⟨0, 1, by simp⟩
  | H1 m n hm ih =>
    obtain ⟨u, v, e⟩ := ih
    refine ⟨v - u * ((n / m : Nat) : Int), u, ?_⟩
    rw [Nat.gcd_rec, ← e]
    have d : ((n % m : Nat) : Int) = (n : Int) - (m : Int) * ((n / m : Nat) : Int) := by
      have := Nat.mod_add_div n m
      have h2 : ((n % m : Nat) : Int) + ((m * (n / m) : Nat) : Int) = (n : Int) := by omega
      rw [Int.natCast_mul] at h2
      omega
    rw [d]
    grind
theorem inv_ex {q : Nat} {c : Int} (h : Nat.Coprime q c.natAbs) : ∃ u : Int, (q : Int) ∣ u * c - 1 := by
  obtain ⟨u, v, e⟩ := bez q c.natAbs
  rw [show Nat.gcd q c.natAbs = 1 from h] at e
  rcases Int.natAbs_eq c with k | k
  · refine ⟨v, -u, ?_⟩
    rw [k]
    have e' : u * (q : Int) + v * (c.natAbs : Int) = 1 := e
    grind
  · refine ⟨-v, -u, ?_⟩
    rw [k]
    have e' : u * (q : Int) + v * (c.natAbs : Int) = 1 := e
    grind
theorem emod_of_sub {m a b : Int} (h : m ∣ a - b) : a % m = b % m := (Int.emod_eq_emod_iff_emod_sub_eq_zero).mpr (Int.emod_eq_zero_of_dvd h)
theorem sub_of_emod {m a b : Int} (h : a % m = b % m) : m ∣ a - b := Int.dvd_of_emod_eq_zero ((Int.emod_eq_emod_iff_emod_sub_eq_zero).mp h)
theorem dvd_nat {m : Nat} {z : Int} : (m : Int) ∣ z ↔ m ∣ z.natAbs := Int.ofNat_dvd_left
theorem m_dvd {pw : List (Nat × Nat)} (h : Pw pw) {z : Int} (hq : ∀ x ∈ pw, ((qOf x : Nat) : Int) ∣ z) : ((mOf pw : Nat) : Int) ∣ z :=
  dvd_nat.mpr ((parts_dvd h).mp fun x hx => dvd_nat.mp (hq x hx))
theorem q_dvd {pw : List (Nat × Nat)} (h : Pw pw) {x : Nat × Nat} (hx : x ∈ pw) {z : Int} (hz : ((mOf pw : Nat) : Int) ∣ z) : ((qOf x : Nat) : Int) ∣ z :=
  Int.dvd_trans (Int.natCast_dvd_natCast.mpr (part_dvd_mOf h hx)) hz
theorem p_dvd {pw : List (Nat × Nat)} (h : Pw pw) {x : Nat × Nat} (hx : x ∈ pw) {z : Int} (hz : ((qOf x : Nat) : Int) ∣ z) : (x.1 : Int) ∣ z := by
  refine Int.dvd_trans (Int.natCast_dvd_natCast.mpr ?_) hz
  have := h.pos x hx
  exact Nat.dvd_trans (by rw [Nat.pow_one]; exact Nat.dvd_refl _) (Nat.pow_dvd_pow x.1 this)
theorem q_cop {x : Nat × Nat} (hp : x.1 ∈ PN) {c : Int} (nd : ¬ (x.1 : Int) ∣ c) : Nat.Coprime (qOf x) c.natAbs := cop_pow (cop_of hp fun z => nd (dvd_nat.mpr z)) _
theorem q_of_mul {x : Nat × Nat} (hp : x.1 ∈ PN) {a c : Int} (nd : ¬ (x.1 : Int) ∣ c) (h : ((qOf x : Nat) : Int) ∣ a * c) : ((qOf x : Nat) : Int) ∣ a := by
  have h := dvd_nat.mp h
  rw [Int.natAbs_mul] at h
  exact dvd_nat.mpr ((q_cop hp nd).dvd_of_dvd_mul_right h)
theorem p_of_mul {p : Nat} (hp : p ∈ PN) {a c : Int} (nd : ¬ (p : Int) ∣ c) (h : (p : Int) ∣ a * c) : (p : Int) ∣ a := by
  have h := dvd_nat.mp h
  rw [Int.natAbs_mul] at h
  exact dvd_nat.mpr ((cop_of hp fun z => nd (dvd_nat.mpr z)).dvd_of_dvd_mul_right h)
theorem p_one {p : Nat} (hp : p ∈ PN) : ¬ (p : Int) ∣ 1 := by
  have := PN_lt p hp
  intro z
  have := Int.le_of_dvd (by decide) z
  omega
theorem crt : ∀ {pw : List (Nat × Nat)}, Pw pw → ∀ t : Nat × Nat → Int, ∃ u : Int, ∀ x ∈ pw, ((qOf x : Nat) : Int) ∣ u - t x
  | [], _, _ => ⟨0, fun _ h => absurd h List.not_mem_nil⟩
  | x :: r, hw, t => by
    obtain ⟨u', hu⟩ := crt hw.tail t
    have hx := hw.mem List.mem_cons_self
    have c : Nat.Coprime (qOf x) (mOf r) := by
      refine cop_pow (cop_of hx fun d => ?_) _
      exact (List.nodup_cons.mp hw.nodup).1 ((dvd_mOf hx hw.tail).mp d)
    obtain ⟨a, b, e⟩ := bez (qOf x) (mOf r)
    rw [show Nat.gcd (qOf x) (mOf r) = 1 from c] at e
    have e : a * ((qOf x : Nat) : Int) + b * ((mOf r : Nat) : Int) = 1 := e
    refine ⟨t x * (b * ((mOf r : Nat) : Int)) + u' * (a * ((qOf x : Nat) : Int)), fun y hy => ?_⟩
    rcases List.mem_cons.mp hy with rfl | hy
    · exact ⟨(u' - t y) * a, by grind⟩
    · obtain ⟨k, hk⟩ := hu y hy
      obtain ⟨l, hl⟩ := Int.natCast_dvd_natCast.mpr (part_dvd_mOf hw.tail hy)
      have hl : ((mOf r : Nat) : Int) = ((qOf y : Nat) : Int) * l := hl
      exact ⟨(t x - u') * b * l + k, by grind⟩
/-- the first of the numbers that the prime does not divide -/
structure IsFst (p : Nat) (cs : List Int) (k : Nat) (c : Int) : Prop where
  at_ : cs[k]? = some c
  nd : ¬ (p : Int) ∣ c
  ahead : ∀ (j : Nat) (b : Int), j < k → cs[j]? = some b → (p : Int) ∣ b
theorem IsFst.uniq {p : Nat} {cs : List Int} {k k' : Nat} {c c' : Int} (h : IsFst p cs k c) (h' : IsFst p cs k' c') : k = k' ∧ c = c' := by
  have e : k = k' := by
    rcases Nat.lt_trichotomy k k' with z | z | z
    · exact absurd (h'.ahead k c z h.at_) h.nd
    · exact z
    · exact absurd (h.ahead k' c' z h'.at_) h'.nd
  subst e
  exact ⟨rfl, Option.some.inj (h.at_.symm.trans h'.at_)⟩
theorem fst_ex {p : Nat} : ∀ {cs : List Int}, (∃ c ∈ cs, ¬ (p : Int) ∣ c) → ∃ k c, IsFst p cs k c
  | [], h => by
    obtain ⟨c, hc, _⟩ := h
    exact absurd hc List.not_mem_nil
  | b :: r, h => by
    by_cases d : (p : Int) ∣ b
    · obtain ⟨c, hc, nd⟩ := h
      have hr : ∃ c ∈ r, ¬ (p : Int) ∣ c := by
        rcases List.mem_cons.mp hc with rfl | hc
        · exact absurd d nd
        · exact ⟨c, hc, nd⟩
      obtain ⟨k, c, i⟩ := fst_ex hr
      refine ⟨k + 1, c, i.at_, i.nd, fun j z hj e => ?_⟩
      cases j with
      | zero =>
        cases e
        exact d
      | succ j => exact i.ahead j z (by omega) e
    · exact ⟨0, b, rfl, d, fun j _ hj _ => absurd hj (Nat.not_lt_zero _)⟩
abbrev Free (pw : List (Nat × Nat)) (cs : List Int) : Prop := ∀ x ∈ pw, ∃ c ∈ cs, ¬ (x.1 : Int) ∣ c
def IsU (pw : List (Nat × Nat)) (cs : List Int) (u : Int) : Prop := ∀ x ∈ pw, ∀ k c, IsFst x.1 cs k c → ((qOf x : Nat) : Int) ∣ u * c - 1
theorem isU_ex {pw : List (Nat × Nat)} (h : Pw pw) {cs : List Int} (f : Free pw cs) : ∃ u, IsU pw cs u := by
  have ex : ∀ x : Nat × Nat, ∃ t : Int, x ∈ pw → ∀ k c, IsFst x.1 cs k c → ((qOf x : Nat) : Int) ∣ t * c - 1 := by
    intro x
    by_cases hx : x ∈ pw
    · obtain ⟨k, c, i⟩ := fst_ex (f x hx)
      obtain ⟨t, ht⟩ := inv_ex (q_cop (h.mem hx) i.nd)
      refine ⟨t, fun _ k' c' i' => ?_⟩
      obtain ⟨rfl, rfl⟩ := i.uniq i'
      exact ht
    · exact ⟨0, fun z => absurd z hx⟩
  obtain ⟨u, hu⟩ := crt h fun x => Classical.choose (ex x)
  refine ⟨u, fun x hx k c i => ?_⟩
  obtain ⟨a, ha⟩ := hu x hx
  obtain ⟨b, hb⟩ := Classical.choose_spec (ex x) hx k c i
  exact ⟨a * c + b, by grind⟩
theorem IsU.unit {pw : List (Nat × Nat)} (h : Pw pw) {cs : List Int} (f : Free pw cs) {u : Int} (hu : IsU pw cs u) {x : Nat × Nat} (hx : x ∈ pw) : ¬ (x.1 : Int) ∣ u := by
  obtain ⟨k, c, i⟩ := fst_ex (f x hx)
  intro z
  have := p_dvd h hx (hu x hx k c i)
  have d := Int.dvd_sub (Int.dvd_mul_of_dvd_left (c := c) z) this
  rw [show u * c - (u * c - 1) = 1 by omega] at d
  exact p_one (h.mem hx) d
theorem IsU.uniq {pw : List (Nat × Nat)} (h : Pw pw) {cs : List Int} (f : Free pw cs) {u v : Int} (hu : IsU pw cs u) (hv : IsU pw cs v) : ((mOf pw : Nat) : Int) ∣ u - v := by
  refine m_dvd h fun x hx => ?_
  obtain ⟨k, c, i⟩ := fst_ex (f x hx)
  refine q_of_mul (h.mem hx) i.nd ?_
  have d := Int.dvd_sub (hu x hx k c i) (hv x hx k c i)
  rw [show u * c - 1 - (v * c - 1) = (u - v) * c by grind] at d
  exact d
noncomputable def nfU (pw : List (Nat × Nat)) (cs : List Int) : Int := open Classical in if h : ∃ u, IsU pw cs u then Classical.choose h else 0
theorem nfU_is {pw : List (Nat × Nat)} (h : Pw pw) {cs : List Int} (f : Free pw cs) : IsU pw cs (nfU pw cs) := by
  unfold nfU
  have e := isU_ex h f
  rw [dif_pos e]
  exact Classical.choose_spec e
/-- all numbers times u by m -/
def mulM (m : Nat) (u : Int) (cs : List Int) : List Int := cs.map fun c => (u * c) % (m : Int)
noncomputable def nfC (pw : List (Nat × Nat)) (cs : List Int) : List Int := mulM (mOf pw) (nfU pw cs) cs
noncomputable def nfR (pw : List (Nat × Nat)) (cs : List Int) (r : Int) : Int := (nfU pw cs * r) % ((mOf pw : Nat) : Int)
theorem mul_same {m u v : Int} (h : m ∣ u - v) (c : Int) : (u * c) % m = (v * c) % m := by
  refine emod_of_sub ?_
  rw [← Int.sub_mul]
  exact Int.dvd_mul_of_dvd_left h
theorem nf_of {pw : List (Nat × Nat)} (h : Pw pw) {cs : List Int} (f : Free pw cs) {u : Int} (hu : IsU pw cs u) : mulM (mOf pw) u cs = nfC pw cs ∧ ∀ r, (u * r) % ((mOf pw : Nat) : Int) = nfR pw cs r := by
  have d := hu.uniq h f (nfU_is h f)
  exact ⟨List.map_congr_left fun c _ => mul_same d c, fun r => mul_same d r⟩
theorem nfC_len (pw : List (Nat × Nat)) (cs : List Int) : (nfC pw cs).length = cs.length := List.length_map _
theorem mem_mulM {m : Nat} (hm : 1 ≤ m) {u : Int} {cs : List Int} {c : Int} (h : c ∈ mulM m u cs) : 0 ≤ c ∧ c < m := by
  obtain ⟨b, _, rfl⟩ := List.mem_map.mp h
  exact ⟨Int.emod_nonneg _ (by omega), Int.emod_lt_of_pos _ (by omega)⟩
theorem p_emod {pw : List (Nat × Nat)} (h : Pw pw) {x : Nat × Nat} (hx : x ∈ pw) (z : Int) : (x.1 : Int) ∣ z % ((mOf pw : Nat) : Int) ↔ (x.1 : Int) ∣ z := by
  have pm : (x.1 : Int) ∣ ((mOf pw : Nat) : Int) := p_dvd h hx (Int.natCast_dvd_natCast.mpr (part_dvd_mOf h hx))
  have e := Int.emod_add_mul_ediv z ((mOf pw : Nat) : Int)
  constructor
  · intro d
    rw [← e]
    exact Int.dvd_add d (Int.dvd_mul_of_dvd_left pm)
  · intro d
    have : z % ((mOf pw : Nat) : Int) = z - ((mOf pw : Nat) : Int) * (z / ((mOf pw : Nat) : Int)) := by omega
    rw [this]
    exact Int.dvd_sub d (Int.dvd_mul_of_dvd_left pm)
/-- the first place stays where all numbers are multiplied by a unit -/
theorem fst_mul {pw : List (Nat × Nat)} (h : Pw pw) {x : Nat × Nat} (hx : x ∈ pw) {u : Int} (nu : ¬ (x.1 : Int) ∣ u) {cs : List Int} {k : Nat} {c : Int} (i : IsFst x.1 cs k c) : IsFst x.1 (mulM (mOf pw) u cs) k ((u * c) % ((mOf pw : Nat) : Int)) := by
  refine ⟨?_, ?_, fun j b hj e => ?_⟩
  · unfold mulM
    rw [List.getElem?_map, i.at_]
    rfl
  · rw [p_emod h hx]
    intro z
    rw [Int.mul_comm] at z
    exact i.nd (p_of_mul (h.mem hx) nu z)
  · unfold mulM at e
    rw [List.getElem?_map] at e
    obtain ⟨d, hd, rfl⟩ := Option.map_eq_some_iff.mp e
    rw [p_emod h hx]
    exact Int.dvd_mul_of_dvd_right (i.ahead j d hj hd)
theorem free_mul {pw : List (Nat × Nat)} (h : Pw pw) {u : Int} (nu : ∀ x ∈ pw, ¬ (x.1 : Int) ∣ u) {cs : List Int} (f : Free pw cs) : Free pw (mulM (mOf pw) u cs) := by
  intro x hx
  obtain ⟨k, c, i⟩ := fst_ex (f x hx)
  have j := fst_mul h hx (nu x hx) i
  exact ⟨_, List.mem_of_getElem? j.at_, j.nd⟩
theorem nf_free {pw : List (Nat × Nat)} (h : Pw pw) {cs : List Int} (f : Free pw cs) : Free pw (nfC pw cs) := free_mul h (fun _ hx => (nfU_is h f).unit h f hx) f
/-- in the normal numbers the first one is 1 by the prime power -/
theorem nf_one {pw : List (Nat × Nat)} (h : Pw pw) {cs : List Int} (f : Free pw cs) : IsU pw (nfC pw cs) 1 := by
  intro x hx k c i
  obtain ⟨k0, c0, i0⟩ := fst_ex (f x hx)
  obtain ⟨rfl, rfl⟩ := i.uniq (fst_mul h hx ((nfU_is h f).unit h f hx) i0)
  have d := nfU_is h f x hx _ _ i0
  have e := Int.emod_add_mul_ediv (nfU pw cs * c0) ((mOf pw : Nat) : Int)
  have dm : ((qOf x : Nat) : Int) ∣ ((mOf pw : Nat) : Int) := Int.natCast_dvd_natCast.mpr (part_dvd_mOf h hx)
  have d2 : ((qOf x : Nat) : Int) ∣ ((mOf pw : Nat) : Int) * (nfU pw cs * c0 / ((mOf pw : Nat) : Int)) := Int.dvd_mul_of_dvd_left dm
  have d3 := Int.dvd_sub d d2
  rw [Int.one_mul]
  rw [show nfU pw cs * c0 - 1 - ((mOf pw : Nat) : Int) * (nfU pw cs * c0 / ((mOf pw : Nat) : Int)) = (nfU pw cs * c0) % ((mOf pw : Nat) : Int) - 1 by omega] at d3
  exact d3
theorem mulM_one {m : Nat} {cs : List Int} (c0 : ∀ c ∈ cs, 0 ≤ c ∧ c < m) : mulM m 1 cs = cs := by
  unfold mulM
  rw [show cs = cs.map id by simp]
  simp only [List.map_map]
  refine List.map_congr_left fun c hc => ?_
  have := c0 c (by simpa using hc)
  show (1 * c) % (m : Int) = c
  rw [Int.one_mul]
  exact Int.emod_eq_of_lt this.1 this.2
/-- numbers that are normal are their own normal numbers -/
theorem nf_self {pw : List (Nat × Nat)} (h : Pw pw) {cs : List Int} (f : Free pw cs) (c0 : ∀ c ∈ cs, 0 ≤ c ∧ c < (mOf pw : Nat)) (hu : IsU pw cs 1) : nfC pw cs = cs ∧ ∀ r : Int, 0 ≤ r → r < (mOf pw : Nat) → nfR pw cs r = r := by
  obtain ⟨e1, e2⟩ := nf_of h f hu
  refine ⟨by rw [← e1]; exact mulM_one c0, fun r r0 r1 => ?_⟩
  rw [← e2, Int.one_mul]
  exact Int.emod_eq_of_lt r0 r1
theorem nfC_bd {pw : List (Nat × Nat)} (h : Pw pw) (cs : List Int) : ∀ c ∈ nfC pw cs, 0 ≤ c ∧ c < (mOf pw : Nat) := fun _ hc => mem_mulM (mOf_pos h) hc
theorem nfR_bd {pw : List (Nat × Nat)} (h : Pw pw) (cs : List Int) (r : Int) : 0 ≤ nfR pw cs r ∧ nfR pw cs r < (mOf pw : Nat) := by
  have := mOf_pos h
  exact ⟨Int.emod_nonneg _ (by omega), Int.emod_lt_of_pos _ (by omega)⟩
theorem nf_idem {pw : List (Nat × Nat)} (h : Pw pw) {cs : List Int} (f : Free pw cs) (r : Int) : nfC pw (nfC pw cs) = nfC pw cs ∧ nfR pw (nfC pw cs) (nfR pw cs r) = nfR pw cs r := by
  obtain ⟨e1, e2⟩ := nf_self h (nf_free h f) (nfC_bd h cs) (nf_one h f)
  exact ⟨e1, e2 _ (nfR_bd h cs r).1 (nfR_bd h cs r).2⟩
/-- all products across are alike by m -/
def Cross (m : Nat) (a b : List Int) : Prop := ∀ (i j : Nat) (x y z w : Int), a[i]? = some x → a[j]? = some y → b[i]? = some z → b[j]? = some w → (m : Int) ∣ x * w - y * z
theorem mulM_at {m : Nat} {u : Int} {cs : List Int} {i : Nat} {c : Int} (h : cs[i]? = some c) : (mulM m u cs)[i]? = some ((u * c) % (m : Int)) := by
  unfold mulM
  rw [List.getElem?_map, h]
  rfl
theorem unit_drop {pw : List (Nat × Nat)} (h : Pw pw) {u : Int} (nu : ∀ x ∈ pw, ¬ (x.1 : Int) ∣ u) {z : Int} (d : ((mOf pw : Nat) : Int) ∣ u * z) : ((mOf pw : Nat) : Int) ∣ z := by
  refine m_dvd h fun x hx => q_of_mul (h.mem hx) (nu x hx) ?_
  rw [Int.mul_comm]
  exact q_dvd h hx d
theorem cross_of_rows {pw : List (Nat × Nat)} (h : Pw pw) {u v : Int} (nu : ∀ x ∈ pw, ¬ (x.1 : Int) ∣ u) {a b : List Int} (e : mulM (mOf pw) u a = mulM (mOf pw) v b) : Cross (mOf pw) a b := by
  intro i j x y z w hx hy hz hw
  have e1 : (u * x) % ((mOf pw : Nat) : Int) = (v * z) % ((mOf pw : Nat) : Int) := by
    have := mulM_at (m := mOf pw) (u := u) hx
    rw [e, mulM_at hz] at this
    exact (Option.some.inj this).symm
  have e2 : (u * y) % ((mOf pw : Nat) : Int) = (v * w) % ((mOf pw : Nat) : Int) := by
    have := mulM_at (m := mOf pw) (u := u) hy
    rw [e, mulM_at hw] at this
    exact (Option.some.inj this).symm
  refine unit_drop h nu ?_
  obtain ⟨k, hk⟩ := sub_of_emod e1
  obtain ⟨l, hl⟩ := sub_of_emod e2
  exact ⟨k * w - l * z, by grind⟩
theorem rows_of_cross {pw : List (Nat × Nat)} (h : Pw pw) {cs ds : List Int} {r s : Int} (hl : cs.length = ds.length) (f : Free pw cs) (g : Free pw ds) {u v : Int} (hu : IsU pw cs u) (hv : IsU pw ds v) (X : Cross (mOf pw) (cs ++ [r]) (ds ++ [s])) :
    mulM (mOf pw) u (cs ++ [r]) = mulM (mOf pw) v (ds ++ [s]) := by
  refine List.ext_getElem? fun i => ?_
  unfold mulM
  rw [List.getElem?_map, List.getElem?_map]
  cases ea : (cs ++ [r])[i]? with
  | none =>
    have : (ds ++ [s])[i]? = none := by
      rw [List.getElem?_eq_none_iff] at ea ⊢
      simpa [← hl] using ea
    rw [this]
    rfl
  | some x =>
    have hi : i < (ds ++ [s]).length := by
      have := (List.getElem?_eq_some_iff.mp ea).1
      simpa [← hl] using this
    obtain ⟨z, eb⟩ : ∃ z, (ds ++ [s])[i]? = some z := ⟨_, List.getElem?_eq_getElem hi⟩
    rw [eb]
    show some _ = some _
    congr 1
    refine emod_of_sub (m_dvd h fun q hq => ?_)
    obtain ⟨k, c, ic⟩ := fst_ex (f q hq)
    have hk : k < ds.length := by
      have := (List.getElem?_eq_some_iff.mp ic.at_).1
      omega
    have ak : (cs ++ [r])[k]? = some c := by
      rw [List.getElem?_append_left (by omega)]
      exact ic.at_
    obtain ⟨d, ed⟩ : ∃ d, ds[k]? = some d := ⟨_, List.getElem?_eq_getElem hk⟩
    have bk : (ds ++ [s])[k]? = some d := by
      rw [List.getElem?_append_left hk]
      exact ed
    have hp := h.mem hq
    have nd : ¬ (q.1 : Int) ∣ d := by
      intro pd
      obtain ⟨b, hb, nb⟩ := g q hq
      obtain ⟨j, hj, ej⟩ := List.mem_iff_getElem.mp hb
      have bj : (ds ++ [s])[j]? = some b := by rw [List.getElem?_append_left hj, ← ej]; exact List.getElem?_eq_getElem hj
      have aj : (cs ++ [r])[j]? = some (cs[j]'(by omega)) := by rw [List.getElem?_append_left (by omega)]; exact List.getElem?_eq_getElem _
      have t := p_dvd h hq (q_dvd h hq (X k j c _ d b ak aj bk bj))
      have t2 := Int.dvd_add t (Int.dvd_mul_of_dvd_right (b := cs[j]'(by omega)) pd)
      rw [show c * b - cs[j]'(by omega) * d + cs[j]'(by omega) * d = b * c by grind] at t2
      exact nb (p_of_mul hp ic.nd t2)
    have id : IsFst q.1 ds k d := by
      refine ⟨ed, nd, fun j b hj e => ?_⟩
      have bj : (ds ++ [s])[j]? = some b := by rw [List.getElem?_append_left (by omega)]; exact e
      have aj : (cs ++ [r])[j]? = some (cs[j]'(by omega)) := by rw [List.getElem?_append_left (by omega)]; exact List.getElem?_eq_getElem _
      have pa := ic.ahead j _ hj (List.getElem?_eq_getElem (by omega))
      have t := p_dvd h hq (q_dvd h hq (X k j c _ d b ak aj bk bj))
      have t2 := Int.dvd_add t (Int.dvd_mul_of_dvd_left (c := d) pa)
      rw [show c * b - cs[j]'(by omega) * d + cs[j]'(by omega) * d = b * c by grind] at t2
      exact p_of_mul hp ic.nd t2
    have q1 := hu q hq k c ic
    have q2 := hv q hq k d id
    have q3 := q_dvd h hq (X i k x c z d ea ak eb bk)
    have fin : ((qOf q : Nat) : Int) ∣ (u * x - v * z) * d * c := by
      obtain ⟨k1, e1⟩ := q1
      obtain ⟨k2, e2⟩ := q2
      obtain ⟨k3, e3⟩ := q3
      exact ⟨k1 * x * d - k2 * z * c + k3, by grind⟩
    exact q_of_mul hp nd (q_of_mul hp ic.nd fin)
theorem mulM_append (m : Nat) (u : Int) (cs : List Int) (r : Int) : mulM m u (cs ++ [r]) = mulM m u cs ++ [(u * r) % (m : Int)] := by
  unfold mulM
  rw [List.map_append]
  rfl
/-- two stripes are told alike exactly if all products across are alike -/
theorem nf_iff {pw : List (Nat × Nat)} (h : Pw pw) {cs ds : List Int} {r s : Int} (hl : cs.length = ds.length) (f : Free pw cs) (g : Free pw ds) :
    (nfC pw cs = nfC pw ds ∧ nfR pw cs r = nfR pw ds s) ↔ Cross (mOf pw) (cs ++ [r]) (ds ++ [s]) := by
  have hu := nfU_is h f
  have hv := nfU_is h g
  constructor
  · rintro ⟨e1, e2⟩
    refine cross_of_rows h (u := nfU pw cs) (v := nfU pw ds) (fun x hx => hu.unit h f hx) ?_
    rw [mulM_append, mulM_append]
    exact congr (congrArg _ e1) (congrArg (fun z => [z]) e2)
  · intro X
    have e := rows_of_cross h hl f g hu hv X
    rw [mulM_append, mulM_append] at e
    obtain ⟨e1, e2⟩ := List.append_inj e (by simp [mulM, hl])
    exact ⟨e1, (List.cons.inj e2).1⟩
end KL
namespace KL
open PySem PySem.Spec PyProof.Rows L2 RZ StX SrtO Kw KM
theorem part_of {pw : List (Nat × Nat)} (h : Pw pw) {x : Nat × Nat} (hx : x ∈ pw) {k : Nat} (h1 : x.1 ^ k ∣ mOf pw) (h2 : ¬ x.1 ^ (k + 1) ∣ mOf pw) : k = x.2 := by
  have p2 := PN_lt _ (h.mem hx)
  have dv := part_dvd_mOf h hx
  rcases Nat.lt_trichotomy k x.2 with c | c | c
  · exact absurd (Nat.dvd_trans (Nat.pow_dvd_pow x.1 c) dv) h2
  · exact c
  · have d : x.1 ^ (x.2 + 1) ∣ mOf pw := Nat.dvd_trans (Nat.pow_dvd_pow x.1 c) h1
    obtain ⟨e, he⟩ := dv
    have q0 : 0 < x.1 ^ x.2 := Nat.pow_pos (by omega)
    rw [he, Nat.pow_succ] at d
    have d2 : x.1 ∣ e := Nat.dvd_of_mul_dvd_mul_left q0 d
    have e2 : mOf pw / qOf x = e := by rw [he]; exact Nat.mul_div_cancel_left _ q0
    rw [← e2] at d2
    exact absurd rfl ((cof_dvd h hx hx).mp d2)
theorem pw_ne {pw : List (Nat × Nat)} (h : Pw pw) {x y : Nat × Nat} {i j : Nat} (hx : pw[i]? = some x) (hy : pw[j]? = some y) (ne : j ≠ i) : y.1 ≠ x.1 := by
  intro e
  have n := h.nodup
  obtain ⟨hi, ex⟩ := List.getElem?_eq_some_iff.mp hx
  obtain ⟨hj, ey⟩ := List.getElem?_eq_some_iff.mp hy
  have h1 : (pw.map (·.1))[j]'(by simpa using hj) = (pw.map (·.1))[i]'(by simpa using hi) := by
    rw [List.getElem_map, List.getElem_map, ex, ey]
    exact e
  exact ne ((List.getElem_inj n).mp h1)
theorem cof_q {pw : List (Nat × Nat)} (h : Pw pw) {x y : Nat × Nat} (hx : x ∈ pw) (hy : y ∈ pw) (ne : y.1 ≠ x.1) : qOf y ∣ mOf pw / qOf x := by
  have hxP := h.mem hx
  have hyP := h.mem hy
  obtain ⟨e, he⟩ := part_dvd_mOf h hx
  have p2 := PN_lt _ hxP
  have q0 : 0 < qOf x := Nat.pow_pos (by omega)
  have he : mOf pw = qOf x * e := he
  have e2 : mOf pw / qOf x = e := by rw [he]; exact Nat.mul_div_cancel_left _ q0
  rw [e2]
  have d : qOf y ∣ qOf x * e := by
    rw [← he]
    exact part_dvd_mOf h hy
  have c : Nat.Coprime (qOf y) (qOf x) := by
    refine cop_pow (cop_of hyP fun z => ?_) _
    exact ne (eq_of_dvd hyP hxP (dvd_pow_of hyP z))
  exact c.dvd_of_dvd_mul_left d
section
variable {P : Program} {w : World} {K : PySem.W.Frag} {mg : Str → Option Value} {base : Heap}
/-! ### inverse -/
def sp_inverse : Sp := fun vs H Q _ => ∃ (a : Int) (q : Nat), vs = [.int a, .int (q : Int)] ∧ 2 ≤ q ∧ q < 2 ^ 2000 ∧ Nat.Coprime q a.natAbs ∧
  ∀ (v : Int) (H' : Hp), Same H H' → 0 ≤ v → v < q → (q : Int) ∣ v * a - 1 → Q (.int v) H'
/-! ### what is 1 at one prime power and 0 at all others -/
def sp_one_at : Sp := fun vs H Q _ => ∃ (pw : List (Nat × Nat)) (x : Nat × Nat), vs = [.int ((mOf pw : Nat) : Int), .int (x.1 : Int)] ∧ Per pw ∧ x ∈ pw ∧
  ∀ (v : Int) (H' : Hp), Same H H' → 0 ≤ v → v < (mOf pw : Nat) → ((qOf x : Nat) : Int) ∣ v - 1 → (∀ y ∈ pw, y.1 ≠ x.1 → ((qOf y : Nat) : Int) ∣ v) → Q (.int v) H'
/-! ### the first place -/
def sp_first_place (K : PySem.W.Frag) : Sp := fun vs H Q _ => ∃ (a : Addr) (p : Nat) (cs : List Int) (k : Nat) (c : Int), vs = [.ref a, .int (p : Int)] ∧ SqT K H a (cs.map V.int) ∧ 1 ≤ p ∧ cs.length ≤ 3 ∧ IsFst p cs k c ∧
  ∀ H' : Hp, Same H H' → Q (.int (k : Int)) H'
end
end KL
namespace KL
open PySem PySem.Spec PyProof.Rows L2 RZ StX SrtO Kw KM
theorem Bd.sum {b n : Nat} {i j : Int} (h : i.natAbs ≤ n * 2 ^ b) (h' : Bd b j) : (i + j).natAbs ≤ (n + 1) * 2 ^ b := by
  have := Int.natAbs_add_le i j
  unfold Bd at h'
  rw [Nat.add_mul, Nat.one_mul]
  omega
section
variable {P : Program} {w : World} {K : PySem.W.Frag} {mg : Str → Option Value} {base : Heap}
/-! ### the factor that makes normal -/
def sp_normal_factor (K : PySem.W.Frag) : Sp := fun vs H Q _ => ∃ (a : Addr) (pw : List (Nat × Nat)) (cs : List Int), vs = [.int ((mOf pw : Nat) : Int), .ref a] ∧ Per pw ∧ SqT K H a (cs.map V.int) ∧ cs.length ≤ 3 ∧ Free pw cs ∧
  ∀ (u : Int) (H' : Hp), Same H H' → IsU pw cs u → Bd 4500 u → Q (.int u) H'
/-! ### by a period -/
def sp_by_period (K : PySem.W.Frag) : Sp := fun vs H Q _ => ∃ (a : Addr) (m : Nat) (cs : List Int) (r : Int), vs = [.int (m : Int), .ref a, .int r] ∧ 1 ≤ m ∧ (SqL K H a (cs.map V.int) ∨ SqT K H a (cs.map V.int)) ∧ cs.length ≤ 3 ∧
  ∀ (p : Addr) (H' : Hp), Same H H' → H p = none → SAt K H' p m (cs.map fun c => c % (m : Int)) (r % (m : Int)) → Q (.ref p) H'
/-! ### normal forms -/
def sp_normal_form (K : PySem.W.Frag) : Sp := fun vs H Q _ => ∃ (a : Addr) (pw : List (Nat × Nat)) (cs : List Int) (r : Int), vs = [.ref a] ∧ SAt K H a (mOf pw) cs r ∧ Per pw ∧ cs.length ≤ 3 ∧ Free pw cs ∧ (∀ c ∈ cs, Bd 2000 c) ∧ Bd 2000 r ∧
  ∀ (p : Addr) (H' : Hp), Same H H' → H p = none → SAt K H' p (mOf pw) (nfC pw cs) (nfR pw cs r) → Q (.ref p) H'
theorem SOk.fr {pw : List (Nat × Nat)} {cs : List Int} {r : Int} (h : SOk pw cs r) : Free pw cs := fun _ hx => h.free hx
theorem SOk.rbd {pw : List (Nat × Nat)} {cs : List Int} {r : Int} (h : SOk pw cs r) : Bd 2000 r := by
  have := h.r0
  have := h.per.bd
  unfold Bd
  omega
theorem SOk.mk2 {pw : List (Nat × Nat)} (hP : Per pw) {cs : List Int} {r : Int} (l1 : 1 ≤ cs.length) (l3 : cs.length ≤ 3) (c0 : ∀ c ∈ cs, 0 ≤ c ∧ c < (mOf pw : Nat))
    (ok : Free pw cs) (r0 : 0 ≤ r ∧ r < (mOf pw : Nat)) : SOk pw cs r := ⟨hP, l1, l3, c0, r0, gcdL_one hP.ok ok⟩
theorem SOk.nf {pw : List (Nat × Nat)} {cs : List Int} {r : Int} (h : SOk pw cs r) : SOk pw (nfC pw cs) (nfR pw cs r) :=
  SOk.mk2 h.per (by rw [nfC_len]; exact h.l1) (by rw [nfC_len]; exact h.l3) (nfC_bd h.per.ok cs) (nf_free h.per.ok h.fr) (nfR_bd h.per.ok cs r)
/-! ### the program's own -/
def sp_normal_stripe (K : PySem.W.Frag) : Sp := fun vs H Q _ => ∃ (a : Addr) (pw : List (Nat × Nat)) (cs : List Int) (r : Int), vs = [.ref a] ∧ SAt K H a (mOf pw) cs r ∧ SOk pw cs r ∧
  ∀ (p : Addr) (H' : Hp), Same H H' → H p = none → SAt K H' p (mOf pw) (nfC pw cs) (nfR pw cs r) → Q (.ref p) H'
theorem dp_str {H : Hp} {a : Addr} {m : Nat} {cs : List Int} {r : Int} (h : SAt K H a m cs r) : Dp K H (.ref a) (strD m cs r) := by
  obtain ⟨c, h1, h2⟩ := h.at_
  exact .tup h1 (.cons (.int _) (.cons (.tup h2 (dpAll_ints cs)) (.cons (.int _) .nil)))
theorem shaped_str {m : Nat} {cs : List Int} {r : Int} : SeqAt.shaped (strD m cs r) = true := by
  have h : ∀ cs : List Int, PyData.canLayAll0 (cs.map PyData.int) = true ∧ PyData.depthAll (cs.map PyData.int) = 0 := by
    intro cs
    induction cs with
    | nil => simp [PyData.canLayAll0, PyData.depthAll]
    | cons c r ih => simp [PyData.canLayAll0, PyData.depthAll, PyData.canLay0, PyData.depth, ih.1, ih.2]
  obtain ⟨h1, h2⟩ := h cs
  simp [SeqAt.shaped, strD, PyData.canLay0, PyData.canLayAll0, h1, PyData.depth, PyData.depthAll, h2]
def sp_are_same (K : PySem.W.Frag) : Sp := fun vs H Q _ => ∃ (a b : Addr) (pw qw : List (Nat × Nat)) (cs ds : List Int) (r s : Int), vs = [.ref a, .ref b] ∧ SAt K H a (mOf pw) cs r ∧ SOk pw cs r ∧ SAt K H b (mOf qw) ds s ∧ SOk qw ds s ∧
  ∀ (v : Bool) (H' : Hp), Same H H' → (v = true ↔ mOf pw = mOf qw ∧ nfC pw cs = nfC qw ds ∧ nfR pw cs r = nfR qw ds s) → Q (.bl v) H'
end
end KL
namespace KL
open PySem PySem.Spec PyProof.Rows L2 RZ StX SrtO Kw KM
/-! ### the deck -/
abbrev kC : Key := Sum.inr ("cells" : Str)
abbrev kM : Key := Sum.inr ("mixed" : Str)
abbrev kN : Key := Sum.inr ("draws" : Str)
abbrev deckV (l : Addr) (m n : Int) : List (Key × V) := [(kC, .ref l), (kM, .int m), (kN, .int n)]
theorem get_C {l : Addr} {m n : Int} : valV (deckV l m n) kC = some (.ref l) := rfl
theorem get_M {l : Addr} {m n : Int} : valV (deckV l m n) kM = some (.int m) := rfl
theorem get_N {l : Addr} {m n : Int} : valV (deckV l m n) kN = some (.int n) := rfl
theorem put_N {l : Addr} {m n k : Int} : putK (deckV l m n) kN (.int k) = deckV l m k := rfl
structure DeckAt (H : Hp) (d l : Addr) : Prop where
  ex : ∃ (m n : Int) (cs : List Int), H d = some (.dK (deckV l m n)) ∧ H l = some (.lst (cs.map V.int)) ∧ cs.length ≤ 63
/-- all but the deck stays, and the deck is one again -/
structure Stp (d l : Addr) (H H' : Hp) : Prop where
  pre : DeckAt H d l
  post : DeckAt H' d l
  kp : ∀ b o, b ≠ d → b ≠ l → H b = some o → H' b = some o
theorem Stp.trans {d l : Addr} {H H1 H2 : Hp} (a : Stp d l H H1) (b : Stp d l H1 H2) : Stp d l H H2 := ⟨a.pre, b.post, fun c o h1 h2 e => b.kp c o h1 h2 (a.kp c o h1 h2 e)⟩
theorem DeckAt.ne {H : Hp} {d l : Addr} (h : DeckAt H d l) : d ≠ l := by
  obtain ⟨m, n, cs, h1, h2, _⟩ := h.ex
  exact ne_of h1 h2 (by intro z; cases z)
theorem DeckAt.same {H H' : Hp} {d l : Addr} (h : DeckAt H d l) (s : Same H H') : DeckAt H' d l := by
  obtain ⟨m, n, cs, h1, h2, h3⟩ := h.ex
  exact ⟨m, n, cs, s _ _ h1, s _ _ h2, h3⟩
theorem DeckAt.stp {H H' : Hp} {d l : Addr} (h : DeckAt H d l) (s : Same H H') : Stp d l H H' := ⟨h, h.same s, fun b o _ _ e => s b o e⟩
theorem DeckAt.refl {H : Hp} {d l : Addr} (h : DeckAt H d l) : Stp d l H H := h.stp (Same.refl H)
theorem Stp.rd_tup {d l : Addr} {H H' : Hp} (s : Stp d l H H') {a : Addr} {xs : List V} (h : Rd H a (.tup xs)) : Rd H' a (.tup xs) := by
  obtain ⟨m, n, cs, h1, h2, _⟩ := s.pre.ex
  rcases h with h | ⟨o, h⟩
  · exact .inl (s.kp _ _ (ne_of h h1 (by intro z; cases z)) (ne_of h h2 (by intro z; cases z)) h)
  · exact .inr ⟨o, s.kp _ _ (ne_of h h1 (by intro z; cases z)) (ne_of h h2 (by intro z; cases z)) h⟩
theorem Stp.sqt {K : PySem.W.Frag} {d l : Addr} {H H' : Hp} (s : Stp d l H H') {a : Addr} {xs : List V} (h : SqT K H a xs) : SqT K H' a xs := by
  rcases h with h | h
  · exact .inl (s.rd_tup h)
  · exact .inr h
theorem Stp.sqlO {K : PySem.W.Frag} {d l : Addr} {H H' : Hp} (s : Stp d l H H') {a : Addr} {xs : List V} (n1 : a ≠ l) (h : SqL K H a xs) : SqL K H' a xs := by
  obtain ⟨m, n, cs, h1, h2, _⟩ := s.pre.ex
  rcases h with (h | ⟨o, h⟩) | h
  · exact .inl (.inl (s.kp _ _ (ne_of h h1 (by intro z; cases z)) n1 h))
  · exact .inl (.inr ⟨o, s.kp _ _ (ne_of h h1 (by intro z; cases z)) n1 h⟩)
  · exact .inr h
theorem Stp.lst {d l : Addr} {H H' : Hp} (s : Stp d l H H') {a : Addr} {xs : List V} (n1 : a ≠ l) (h : H a = some (.lst xs)) : H' a = some (.lst xs) := by
  obtain ⟨m, n, cs, h1, h2, _⟩ := s.pre.ex
  exact s.kp _ _ (ne_of h h1 (by intro z; cases z)) n1 h
/-- what is new is not the deck's list -/
theorem DeckAt.off {H : Hp} {d l a : Addr} (h : DeckAt H d l) (n : H a = none) : a ≠ l := by
  obtain ⟨m, k, cs, h1, h2, _⟩ := h.ex
  exact (ne_of_none h2 n).symm
theorem DeckAt.offd {H : Hp} {d l a : Addr} (h : DeckAt H d l) (n : H a = none) : a ≠ d := by
  obtain ⟨m, k, cs, h1, h2, _⟩ := h.ex
  exact (ne_of_none h1 n).symm
theorem dk_C {H : Hp} {d l : Addr} {m n : Int} (e : H d = some (.dK (deckV l m n))) : DGet H d (.str "cells") (some (.ref l)) := get_C (l := l) (m := m) (n := n) ▸ DGet.k (k := kC) e
theorem dk_M {H : Hp} {d l : Addr} {m n : Int} (e : H d = some (.dK (deckV l m n))) : DGet H d (.str "mixed") (some (.int m)) := get_M (l := l) (m := m) (n := n) ▸ DGet.k (k := kM) e
theorem dk_N {H : Hp} {d l : Addr} {m n : Int} (e : H d = some (.dK (deckV l m n))) : DGet H d (.str "draws") (some (.int n)) := get_N (l := l) (m := m) (n := n) ▸ DGet.k (k := kN) e
theorem dp_N {H : Hp} {d l : Addr} {m n k : Int} (e : H d = some (.dK (deckV l m n))) : DPut H d (.str "draws") (.int k) (upd H d (.dK (deckV l m k))) := put_N (l := l) (m := m) (n := n) (k := k) ▸ DPut.k (k := kN) e (by show 3 < sizeLine; decide)
theorem cut_all {xs : List V} {n : Nat} (h : xs.length ≤ n) : cutV xs none (some (n : Int)) = xs := by
  unfold cutV
  rw [HT.sIx_none, show HT.sIx xs.length xs.length (some (n : Int)) = min n xs.length from HT.sIx_nat xs.length xs.length n]
  rw [List.drop_zero, Nat.min_eq_right h, Nat.sub_zero, List.take_length]
end KL
namespace KL
open PySem PySem.Spec PyProof.Rows L2 RZ StX SrtO Kw KM
theorem SAt.stp {K : PySem.W.Frag} {d l : Addr} {H H' : Hp} (s : Stp d l H H') {a : Addr} {m : Nat} {cs : List Int} {r : Int} (h : SAt K H a m cs r) : SAt K H' a m cs r := by
  obtain ⟨c, h1, h2⟩ := h.at_
  exact ⟨c, s.sqt h1, s.sqt h2⟩
section
variable {P : Program} {w : World} {K : PySem.W.Frag} {mg : Str → Option Value} {base : Heap}
def sp__law_deck (K : PySem.W.Frag) : Sp := fun vs H Q _ => ∃ (a : Addr) (ns : List Int), vs = [.ref a] ∧ SqL K H a (ns.map V.int) ∧ ns.length ≤ 63 ∧ ∀ d l H', Same H H' → H d = none → H l = none → DeckAt H' d l → Q (.ref d) H'
theorem ok__law_deck (T : Txt K mg) : FnOk P w K mg base CX0 1 T.a__law_deck T.d__law_deck ["_law_script"] (sp__law_deck K) := by
  refine T.F__law_deck.ok sc__law_deck (fun vs H Q E h => ?_) (fun cdv A outer s H vs Q E hr h => ?_)
  · obtain ⟨a, ns, rfl, _⟩ := h
    rfl
  obtain ⟨a, ns, rfl, hs, h63, q⟩ := h
  refine ⟨_, pss_cons (ps_set (i := 1) sc__law_deck.nd rfl (Or.inl rfl) pe_int)
    (pss_cons (ps_for PassesOwn.never rfl (pi_list (pe_slice sl_list (pv 0) po_none (po_some pe_int))) (pg_name (i := 2) sc__law_deck.nd rfl (Or.inl rfl)) (pss_one (ps_set (i := 1) sc__law_deck.nd rfl (Or.inl rfl) (pe_op op_mod (pe_callTy call_int1 (by rfl) T.n_int (by decide +kernel) (pa_cons (pe_op op_add (pe_op op_add (pe_op op_mul (pv 1) pe_int) (pe_op op_mod (pe_callTy call_int1 (by rfl) T.n_int (by decide +kernel) (pa_cons (pv 2) pa_nil)) pe_int)) pe_int) pa_nil)) pe_int))))
    (pss_one (ps_ret (pe_disp (pps_cons pe_str (pe_revL (pe_callTy call_list_of (by rfl) T.n_list (by decide +kernel) (pa_cons (pe_slice sl_list (pv 0) po_none (po_some pe_int)) pa_nil))) (pps_cons pe_str (pv 1) (pps_cons pe_str pe_int pps_nil))) (by rfl) (by rfl) (by simp) (by decide))))), ?_⟩
  have hl : (ns.map V.int).length ≤ 63 := by simpa using h63
  have hcut : cutV (ns.map V.int) none (some (63 : Int)) = ns.map V.int := cut_all (n := 63) hl
  refine ⟨_, rfl, 63, rfl, a, _, rfl, hs, fun c nc => ?_⟩
  have s1 := same_new nc (.lst (cutV (ns.map V.int) none (some 63)))
  have ec : (upd H c (.lst (cutV (ns.map V.int) none (some 63)))) c = some (.lst (ns.map V.int)) := by rw [upd_same, hcut]
  generalize hH1 : upd H c (.lst (cutV (ns.map V.int) none (some 63))) = H1 at s1 ec
  refine ⟨c, rfl, ⟨_, SqL.of ec⟩, for_list (xs := ns.map V.int) (fun i σ H' => ∃ (m : Int) (z : Option V), σ = [some (.ref a), some (.int m), z] ∧ H1 = H') ⟨_, none, rfl, rfl⟩ ?_ ?_ ?_⟩
  · rintro i σ H' _ ⟨m, z, rfl, rfl⟩
    exact SqL.of ec
  · rintro i x σ H' hx ⟨m, z, rfl, rfl⟩
    rw [List.getElem?_map] at hx
    obtain ⟨v, hv, rfl⟩ := Option.map_eq_some_iff.mp hx
    refine ⟨_, rfl, _, _, rfl, rfl, .inr (by decide), _, rfl, .inl ⟨_, rfl, _, _, rfl, rfl, (show (0 : Int) < 2147483629 by decide), _, _, rfl, rfl, _, _, rfl, rfl, .inl ⟨_, rfl, _, _, rfl, rfl, (show (0 : Int) < 2147483587 by decide), ?_⟩⟩⟩
    exact ⟨_, _, rfl, rfl⟩
  · rintro σ H' ⟨m, z, rfl, rfl⟩
    intro d nd
    refine ⟨_, rfl, 63, rfl, a, _, rfl, (same_new nd _).seq (s1.seq hs), fun e ne => ?_⟩
    have s2 := (s1.trans (same_new nd (.dK []))).trans (same_new ne (.lst (cutV (ns.map V.int) none (some 63))))
    refine ⟨e, _, rfl, .inl (SqL.of upd_same), fun f nf => ?_⟩
    have s3 := s2.trans (same_new nf (.lst (cutV (ns.map V.int) none (some 63))))
    refine ⟨f, _, rfl, SqL.of upd_same, fun l nl => ?_⟩
    have s4 := s3.trans (same_new nl (.lst (cutV (ns.map V.int) none (some 63)).reverse))
    refine ⟨_, rfl, ?_⟩
    have nd4 : d ≠ l := fun z => by
      subst z
      have q1 : (upd (upd (upd H1 d (.dK [])) e (.lst (cutV (ns.map V.int) none (some 63)))) f (.lst (cutV (ns.map V.int) none (some 63)))) d = some (.dK []) :=
        (same_new nf _) _ _ ((same_new ne _) _ _ upd_same)
      rw [q1] at nl
      cases nl
    have ed : (upd (upd (upd (upd H1 d (.dK [])) e (.lst (cutV (ns.map V.int) none (some 63)))) f (.lst (cutV (ns.map V.int) none (some 63)))) l (.lst (cutV (ns.map V.int) none (some 63)).reverse)) d = some (.dK []) :=
      (same_new nl _) _ _ ((same_new nf _) _ _ ((same_new ne _) _ _ upd_same))
    have nH : H d = none := s1.free nd
    refine ⟨ed, deckV l m 0, rfl, by show 3 ≤ 15; decide, ?_⟩
    refine q d l _ (same_upd2 s4 nH) nH (s3.free nl) ⟨m, 0, ns.reverse, ?_, ?_, by simpa using h63⟩
    · rw [upd_same]
      rfl
    · rw [upd_ne nd4.symm, upd_same, hcut, List.map_reverse]
theorem cl__law_deck {X : Cx} {p pos : Pos} {e : Expr} {es : List Expr} {t : TA} (T : Txt K mg) (hr : Room 1 X.A) (ha : PA X (e :: es) t) (hg : Gl X "_law_deck" := by rfl)
    (he : starEach (e :: es) X.env = (false, eval e X.env) :: starEach es X.env := by rfl) (hpl : (backTo pos (starEach es X.env)).any (·.1) = false := by rfl) (hK : X.K = K := by rfl) (hmg : X.mg = mg := by rfl) :
    PE X (.Call (.Name "_law_deck" p) (e :: es) [] pos) (tCall (sp__law_deck K) [] E0 t) := by
  subst hK hmg
  exact pe_call (ok__law_deck T) hr hg T.m__law_deck T.F__law_deck.kp T.b__law_deck .nil pass0 ha (by decide) he hpl
end
end KL
namespace KL
open PySem PySem.Spec PyProof.Rows L2 RZ StX SrtO Kw KM
theorem dp_ints {K : PySem.W.Frag} {H : Hp} : ∀ cs : List Int, DpAll K H (cs.map V.int) (cs.map PyData.int)
  | [] => .nil
  | c :: r => .cons (.int c) (dp_ints r)
theorem lay_ints : ∀ cs : List Int, PyData.canLayAll0 (cs.map PyData.int) = true
  | [] => rfl
  | c :: r => by
    have ih := lay_ints r
    simp only [List.map_cons, PyData.canLayAll0, PyData.canLay0, ih, Bool.and_self]
theorem depth_ints : ∀ cs : List Int, PyData.depthAll (cs.map PyData.int) = 0
  | [] => by simp [PyData.depthAll]
  | c :: r => by
    have ih := depth_ints r
    simp only [List.map_cons, PyData.depthAll, PyData.depth, ih]
    rfl
theorem shaped_ints (cs : List Int) : SeqAt.shaped (.list (cs.map PyData.int)) = true := by
  unfold SeqAt.shaped
  simp [PyData.canLay0, lay_ints, PyData.depth, depth_ints]
theorem mid64 (z : Int) : -(2 ^ 64) < z % 2147483647 ∧ z % 2147483647 < 2 ^ 64 := by omega
section
variable {P : Program} {w : World} {K : PySem.W.Frag} {mg : Str → Option Value} {base : Heap}
def sp__law_draw (K : PySem.W.Frag) : Sp := fun vs H Q _ => ∃ (d l : Addr) (many : Int), vs = [.ref d, .int many] ∧ DeckAt H d l ∧ 1 ≤ many ∧ Bd 2000 many ∧
  ∀ (v : Int) (H' : Hp), 0 ≤ v → v < many → Stp d l H H' → Q (.int v) H'
theorem ok__law_draw (T : Txt K mg) : FnOk P w K mg base CX0 1 T.a__law_draw T.d__law_draw ["_law_deck_here", "_law_many"] (sp__law_draw K) := by
  refine T.F__law_draw.ok sc__law_draw (fun vs H Q E h => ?_) (fun cdv A outer s H vs Q E hr h => ?_)
  · obtain ⟨d, l, many, rfl, _⟩ := h
    rfl
  obtain ⟨d, l, many, rfl, hD, h1, hb, q⟩ := h
  refine ⟨_, pss_cons (ps_dput (hu_of hr) (pv 0) pe_str (pe_op op_add (pe_dget (hu_of hr) (pv 0) pe_str (fun _ _ => rfl)) pe_int) rfl)
    (pss_cons (ps_set (i := 2) sc__law_draw.nd rfl (Or.inl rfl) (pe_op op_add (pe_dget (hu_of hr) (pv 0) pe_str (fun _ _ => rfl)) (pe_op op_mul pe_int (pe_dget (hu_of hr) (pv 0) pe_str (fun _ _ => rfl)))))
    (Evl.pss_cut (ps_if (pt_cmpR (op_neD hr.units) (pe_dget (hu_of hr) (pv 0) pe_str (fun _ _ => rfl)) (pe_lst pa_nil) (nomark _)) (pss_cons (ps_set (i := 3) sc__law_draw.nd rfl (Or.inl rfl) (pe_bm0 PySem.F.plainAttrs_list PySem.F.slot_list_pop PySem.F.type_list_pop mt_pop (pe_dget (hu_of hr) (pv 0) pe_str (fun _ _ => rfl))))
        (pss_cons (ps_if (pt_cmpR op_ge (pv 3) (pe_op op_pow pe_int pe_int) (nomark _)) (pss_cons (ps_expr (pe_bm PySem.F.plainAttrs_list PySem.F.slot_list_append PySem.F.type_list_append mt_append (pe_dget (hu_of hr) (pv 0) pe_str (fun _ _ => rfl)) (pa_cons (pe_op op_fdivW (pv 3) (pe_callB (call_max2 rfl) (by rfl) T.n_max (by decide +kernel) (pa_cons pe_int (pa_cons (pv 1) pa_nil)))) pa_nil)))
            (pss_one (ps_ret (pe_op op_mod (pe_callTy call_int1 (by rfl) T.n_int (by decide +kernel) (pa_cons (pv 3) pa_nil)) (pv 1))))) pss_nil)
        (pss_one (ps_set (i := 2) sc__law_draw.nd rfl (Or.inl rfl) (pe_op op_add (pv 2) (pe_op op_mod (pe_callTy call_int1 (by rfl) T.n_int (by decide +kernel) (pa_cons (pv 3) pa_nil)) pe_int)))))) pss_nil)
    (pss_cons (ps_set (i := 2) sc__law_draw.nd rfl (Or.inl rfl) (pe_op op_mod (pe_callTy call_int1 (by rfl) T.n_int (by decide +kernel) (pa_cons (pe_op op_add (pe_op op_mul (pv 2) pe_int) pe_int) pa_nil)) pe_int))
    (pss_cons (ps_set (i := 2) sc__law_draw.nd rfl (Or.inl rfl) (pe_op op_mod (pe_callTy call_int1 (by rfl) T.n_int (by decide +kernel) (pa_cons (pe_op op_add (pe_op op_add (pe_op op_mul (pv 2) (pv 2)) (pe_op op_mul pe_int (pe_dget (hu_of hr) (pv 0) pe_str (fun _ _ => rfl)))) pe_int) pa_nil)) pe_int))
    (pss_cons (ps_set (i := 2) sc__law_draw.nd rfl (Or.inl rfl) (pe_op op_mod (pe_callTy call_int1 (by rfl) T.n_int (by decide +kernel) (pa_cons (pe_op op_mul (pv 2) pe_int) pa_nil)) pe_int))
    (pss_one (ps_ret (pe_op op_mod (pe_callTy call_int1 (by rfl) T.n_int (by decide +kernel) (pa_cons (pe_op op_fdivW (pv 2) pe_int) pa_nil)) (pv 1))))))))), ?_⟩
  have ndl := hD.ne
  have hD0 := hD
  obtain ⟨m, n, cs, e1, e2, h63⟩ := hD
  refine ⟨_, rfl, d, .int n, rfl, dk_N e1, _, _, rfl, rfl, _, rfl, d, _, rfl, dp_N e1, ?_⟩
  have f1 : (upd H d (.dK (deckV l m (n + 1)))) d = some (.dK (deckV l m (n + 1))) := upd_same
  have f2 : (upd H d (.dK (deckV l m (n + 1)))) l = some (.lst (cs.map V.int)) := by rw [upd_ne ndl.symm]; exact e2
  have fk : ∀ b o, b ≠ d → b ≠ l → H b = some o → (upd H d (.dK (deckV l m (n + 1)))) b = some o := fun b o h1 _ e => by rw [upd_ne h1]; exact e
  generalize hH1 : upd H d (.dK (deckV l m (n + 1))) = H1 at f1 f2 fk
  refine ⟨_, rfl, d, _, rfl, dk_M f1, _, rfl, d, _, rfl, dk_N f1, _, _, rfl, rfl, .inl (by decide), _, _, rfl, rfl, ?_⟩
  refine ⟨fun σ H3 => ∃ (num : Int) (z : Option V), σ = [some (.ref d), some (.int many), some (.int num), z] ∧ Stp d l H H3, ?_, ?_⟩
  · refine ⟨_, rfl, d, _, rfl, dk_C f1, (by show 0 ≤ sizeLine; exact Nat.zero_le _), fun p np => ?_⟩
    have s1 := same_new np (.lst [])
    have g1 := s1 _ _ f1
    have g2 := s1 _ _ f2
    have gk : ∀ b o, b ≠ d → b ≠ l → H b = some o → (upd H1 p (.lst [])) b = some o := fun b o h1 h2 e => s1 _ _ (fk b o h1 h2 e)
    have gp : (upd H1 p (.lst [])) p = some (.lst []) := upd_same
    generalize hH2 : upd H1 p (.lst []) = H2 at s1 g1 g2 gk gp
    refine ⟨.list (cs.map PyData.int), .list [], .lst (SqL.of g2) (dp_ints cs), .lst (SqL.of gp) .nil, shaped_ints cs, shaped_ints [], _, rfl, ?_⟩
    have snoc : cs = [] ∨ ∃ a b, cs = a ++ [b] := by
      rcases List.eq_nil_or_concat cs with e | ⟨a, b, e⟩
      · exact .inl e
      · exact .inr ⟨a, b, by rw [e, List.concat_eq_append]⟩
    rcases snoc with rfl | ⟨cs', c, rfl⟩
    · refine iteF ?_
      exact ⟨_, none, rfl, hD0, ⟨m, n + 1, [], g1, g2, by decide⟩, gk⟩
    · have hne : (!(PyData.list (List.map PyData.int (cs' ++ [c]))).eqv (PyData.list [])) = true := by
        cases cs' <;> rfl
      rw [hne]
      refine iteT ?_
      have hl : ((cs' ++ [c]).map V.int)[((cs' ++ [c]).map V.int).length - 1]? = some (.int c) := by
        simp
      have hdl : ((cs' ++ [c]).map V.int).dropLast = cs'.map V.int := by simp
      refine ⟨_, rfl, d, _, rfl, dk_C g1, .inl ⟨rfl, _, SqL.of g2⟩, l, _, _, rfl, rfl, g2, hl, ?_⟩
      rw [hdl]
      have h63' : cs'.length < 63 := by simp at h63; omega
      have i1 : (upd H2 l (.lst (cs'.map V.int))) d = some (.dK (deckV l m (n + 1))) := by rw [upd_ne ndl]; exact g1
      have i2 : (upd H2 l (.lst (cs'.map V.int))) l = some (.lst (cs'.map V.int)) := upd_same
      have ik : ∀ b o, b ≠ d → b ≠ l → H b = some o → (upd H2 l (.lst (cs'.map V.int))) b = some o := fun b o h1 h2 e => by rw [upd_ne h2]; exact gk b o h1 h2 e
      generalize hH3 : upd H2 l (.lst (cs'.map V.int)) = H3 at i1 i2 ik
      refine ⟨_, rfl, _, _, rfl, rfl, ⟨by decide, by decide, by decide⟩, _, _, rfl, rfl, _, rfl, ite2 (fun _ => ?_) (fun _ => ?_)⟩
      · refine ⟨_, rfl, d, _, rfl, dk_C i1, .inl ⟨rfl, _, SqL.of i2⟩, _, rfl, _, rfl, _, _, rfl, ?_⟩
        have mx : ∃ b : Int, (if many > 2 then many else 2) = b ∧ 0 < b ∧ Bd 2000 b := by
          by_cases c : many > 2
          · exact ⟨many, by rw [if_pos c], by omega, hb⟩
          · exact ⟨2, by rw [if_neg c], by decide, Bd.mono (a := 2) (by unfold Bd; decide) (by decide)⟩
        obtain ⟨b, eb, b0, bb⟩ := mx
        rw [eb]
        refine ⟨_, _, rfl, rfl, bb.divOk b0 (by decide) _, l, _, _, rfl, rfl, i2, ?_, ?_⟩
        · rw [List.length_map]
          exact Nat.lt_of_lt_of_le h63' (by decide)
        · refine ⟨_, rfl, .inl ⟨_, rfl, _, rfl, _, _, rfl, rfl, (show (0 : Int) < many by omega), ?_⟩⟩
          refine q _ _ (emodB _ (by omega)).1 (emodB _ (by omega)).2 ⟨hD0, ⟨m, n + 1, cs' ++ [c / b], ?_, ?_, ?_⟩, ?_⟩
          · rw [upd_ne ndl]
            exact i1
          · rw [upd_same, List.map_append]
            rfl
          · rw [List.length_append, List.length_singleton]
            omega
          · intro x o h1 h2 e
            rw [upd_ne h2]
            exact ik x o h1 h2 e
      · refine ⟨_, rfl, _, rfl, .inl ⟨_, rfl, _, _, rfl, rfl, (show (0 : Int) < 2147483629 by decide), _, _, rfl, rfl, ?_⟩⟩
        exact ⟨_, _, rfl, hD0, ⟨m, n + 1, cs', i1, i2, by omega⟩, ik⟩
  · rintro σ H3 ⟨num, z, rfl, st⟩
    obtain ⟨m', n', cs', k1, k2, _⟩ := st.post.ex
    refine ⟨_, rfl, _, _, rfl, rfl, .inr (by decide), _, _, rfl, rfl, .inl ⟨_, rfl, _, _, rfl, rfl, (show (0 : Int) < 2147483647 by decide), ?_⟩⟩
    refine ⟨_, rfl, _, rfl, _, _, rfl, rfl, .inl (mid64 _), _, rfl, d, _, rfl, dk_N k1, _, _, rfl, rfl, .inl (by decide), _, _, rfl, rfl, _, _, rfl, rfl, .inl ⟨_, rfl, _, _, rfl, rfl, (show (0 : Int) < 2147483587 by decide), ?_⟩⟩
    refine ⟨_, rfl, _, _, rfl, rfl, .inr (by decide), .inl ⟨_, rfl, _, _, rfl, rfl, (show (0 : Int) < 2147483563 by decide), ?_⟩⟩
    refine ⟨_, rfl, _, _, rfl, rfl, (Bd.divOk (b := 7) (by decide) (by show (64 : Int).natAbs < 128; decide) (by decide) _), .inl ⟨_, rfl, _, rfl, _, _, rfl, rfl, (show (0 : Int) < many by omega), ?_⟩⟩
    exact q _ H3 (emodB _ (by omega)).1 (emodB _ (by omega)).2 st
theorem cl__law_draw {X : Cx} {p pos : Pos} {e : Expr} {es : List Expr} {t : TA} (T : Txt K mg) (hr : Room 1 X.A) (ha : PA X (e :: es) t) (hg : Gl X "_law_draw" := by rfl)
    (he : starEach (e :: es) X.env = (false, eval e X.env) :: starEach es X.env := by rfl) (hpl : (backTo pos (starEach es X.env)).any (·.1) = false := by rfl) (hK : X.K = K := by rfl) (hmg : X.mg = mg := by rfl) :
    PE X (.Call (.Name "_law_draw" p) (e :: es) [] pos) (tCall (sp__law_draw K) [] E0 t) := by
  subst hK hmg
  exact pe_call (ok__law_draw T) hr hg T.m__law_draw T.F__law_draw.kp T.b__law_draw .nil pass0 ha (by decide) he hpl
end
end KL
namespace KL
open PySem PySem.Spec PyProof.Rows L2 RZ StX SrtO Kw KM
section
variable {P : Program} {w : World} {K : PySem.W.Frag} {mg : Str → Option Value} {base : Heap}
/-! ### pick -/
def sp__law_pick (K : PySem.W.Frag) : Sp := fun vs H Q _ => ∃ (d l a : Addr) (xs : List V), vs = [.ref d, .ref a] ∧ DeckAt H d l ∧ SqL K H a xs ∧ a ≠ l ∧ 1 ≤ xs.length ∧ xs.length ≤ 1000 ∧
  ∀ (v : V) (H' : Hp), v ∈ xs → Stp d l H H' → Q v H'
theorem bdN {n : Nat} {i : Int} (h0 : 0 ≤ i) (h : i ≤ n) (hn : n < 2 ^ 2000) : Bd 2000 i := by
  unfold Bd
  omega
theorem ok__law_pick (T : Txt K mg) : FnOk P w K mg base CX0 2 T.a__law_pick T.d__law_pick ["_law_deck_here", "_law_some"] (sp__law_pick K) := by
  refine T.F__law_pick.ok sc__law_pick (fun vs H Q E h => ?_) (fun cdv A outer s H vs Q E hr h => ?_)
  · obtain ⟨d, l, a, xs, rfl, _⟩ := h
    rfl
  obtain ⟨d, l, a, xs, rfl, hD, hs, hal, h1, h2, q⟩ := h
  refine ⟨_, pss_one (ps_ret (pe_ix ix_list (pv 1) (cl__law_draw T (hr.mono (by decide)) (pa_cons (pv 0) (pa_cons (pe_callB call_len_seq (by rfl) T.n_len (by decide +kernel) (pa_cons (pv 1) pa_nil)) pa_nil))) (fun _ _ => rfl))), ?_⟩
  refine ⟨_, rfl, _, rfl, _, rfl, a, _, rfl, .inl hs, d, l, _, rfl, hD, (by omega), bdN (n := 1000) (by omega) (by omega) (by decide), fun v H' v0 v1 st => ?_⟩
  have hv : v.toNat < xs.length := by omega
  have ev : v = ((v.toNat : Nat) : Int) := by omega
  refine ⟨a, xs, v, xs[v.toNat], rfl, rfl, st.sqlO hal hs, ?_, q _ H' (List.getElem_mem hv) st⟩
  have z := atI_nat (xs := xs) (List.getElem?_eq_getElem hv)
  rw [← ev] at z
  exact z
theorem cl__law_pick {X : Cx} {p pos : Pos} {e : Expr} {es : List Expr} {t : TA} (T : Txt K mg) (hr : Room 2 X.A) (ha : PA X (e :: es) t) (hg : Gl X "_law_pick" := by rfl)
    (he : starEach (e :: es) X.env = (false, eval e X.env) :: starEach es X.env := by rfl) (hpl : (backTo pos (starEach es X.env)).any (·.1) = false := by rfl) (hK : X.K = K := by rfl) (hmg : X.mg = mg := by rfl) :
    PE X (.Call (.Name "_law_pick" p) (e :: es) [] pos) (tCall (sp__law_pick K) [] E0 t) := by
  subst hK hmg
  exact pe_call (ok__law_pick T) hr hg T.m__law_pick T.F__law_pick.kp T.b__law_pick .nil pass0 ha (by decide) he hpl
/-! ### great -/
def sp__law_great (K : PySem.W.Frag) : Sp := fun vs H Q _ => ∃ (d l : Addr) (top : Int), vs = [.ref d, .int top] ∧ DeckAt H d l ∧ 1 ≤ top ∧ Bd 1000 top ∧
  ∀ (v : Int) (H' : Hp), 0 ≤ v → v < top → Stp d l H H' → Q (.int v) H'
theorem ok__law_great (T : Txt K mg) : FnOk P w K mg base CX0 2 T.a__law_great T.d__law_great ["_law_deck_here", "_law_top"] (sp__law_great K) := by
  refine T.F__law_great.ok sc__law_great (fun vs H Q E h => ?_) (fun cdv A outer s H vs Q E hr h => ?_)
  · obtain ⟨d, l, top, rfl, _⟩ := h
    rfl
  obtain ⟨d, l, top, rfl, hD, h1, hb, q⟩ := h
  refine ⟨_, pss_cons (ps_if (pt_cmpR op_le (pv 1) (pe_op op_pow pe_int pe_int) (nomark _)) (pss_one (ps_ret (cl__law_draw T (hr.mono (by decide)) (pa_cons (pv 0) (pa_cons (pv 1) pa_nil))))) pss_nil)
    (pss_cons (ps_asg (pe_tup (pa_cons pe_int (pa_cons pe_int pa_nil))) (pg_tup (by rfl) (pgs_cons (pg_name (i := 2) sc__law_great.nd rfl (Or.inl rfl)) (pgs_cons (pg_name (i := 3) sc__law_great.nd rfl (Or.inl rfl)) pgs_nil))))
    (pss_cons (ps_while PassesOwn.never (pt_cmpR op_lt (pv 3) (pv 1) (nomark _)) (pss_one (ps_par (i := 2) (j := 3) (by rfl) sc__law_great.nd rfl rfl (by decide) rfl rfl (pa_cons (pe_op op_add (pe_op op_mul (pv 2) (pe_op op_pow pe_int pe_int)) (cl__law_draw T (hr.mono (by decide)) (pa_cons (pv 0) (pa_cons (pe_op op_pow pe_int pe_int) pa_nil)))) (pa_cons (pe_op op_mul (pv 3) (pe_op op_pow pe_int pe_int)) pa_nil)) (by rfl))))
    (pss_one (ps_ret (pe_op op_mod (pv 2) (pv 1)))))), ?_⟩
  refine ⟨_, rfl, _, _, rfl, rfl, ⟨by decide, by decide, by decide⟩, _, _, rfl, rfl, _, rfl, ite2 (fun _ => ?_) (fun _ => ?_)⟩
  · exact ⟨_, rfl, _, rfl, d, l, top, rfl, hD, h1, hb.mono (by decide), q⟩
  refine ⟨(by show 2 ≤ sizeLine; decide), fun t nt => ⟨t, _, rfl, SqT.of upd_same, rfl, _, _, rfl, _, _, rfl, rfl, ?_⟩⟩
  have st0 := hD.stp (same_new nt (.tup [V.int 0, V.int 1]))
  refine ⟨fun m σ H' => ∃ f r : Int, σ = [some (.ref d), some (.int top), some (.int f), some (.int r)] ∧ 0 ≤ f ∧ 1 ≤ r ∧ m = (top - r).toNat ∧ Stp d l H H', ⟨_, 0, 1, rfl, by decide, by decide, rfl, st0⟩, ?_⟩
  rintro m σ H' ⟨f, r, rfl, hf, hr1, rfl, st⟩
  refine ⟨_, rfl, _, rfl, _, _, rfl, rfl, _, rfl, ite2 (fun c => ?_) (fun c => ?_)⟩
  · have c := of_decide_eq_true c
    refine ⟨fun σ H2 => ∃ f r' : Int, σ = [some (.ref d), some (.int top), some (.int f), some (.int r')] ∧ 0 ≤ f ∧ r < r' ∧ Stp d l H H2, ?_, ?_⟩
    · rintro σ' H2 ⟨f', r', rfl, h0, h3, st'⟩
      exact ⟨(top - r').toNat, by omega, f', r', rfl, h0, by omega, rfl, st'⟩
    · refine ⟨_, rfl, _, _, rfl, rfl, ⟨by decide, by decide, by decide⟩, _, _, rfl, rfl, .inr ⟨by decide, by decide⟩, ?_⟩
      refine ⟨_, rfl, _, _, rfl, rfl, ⟨by decide, by decide, by decide⟩, d, l, _, rfl, st.post, by decide, Bd.mono (a := 20) (by unfold Bd; decide) (by decide), fun v H2 v0 v1 st2 => ?_⟩
      refine ⟨_, _, rfl, rfl, _, rfl, _, _, rfl, rfl, ⟨by decide, by decide, by decide⟩, _, _, rfl, rfl, .inr ⟨by decide, by decide⟩, ?_⟩
      refine ⟨_, _, rfl, _, _, rfl, ?_, ?_, st.trans st2⟩
      · have : (0 : Int) ≤ f * 10 ^ (6 : Int).toNat := Int.mul_nonneg hf (by decide)
        show 0 ≤ f * 10 ^ (6 : Int).toNat + v
        omega
      · show r < r * 10 ^ (6 : Int).toNat
        have e : (10 : Int) ^ (6 : Int).toNat = 1000000 := by decide
        rw [e]
        omega
  · refine ⟨_, rfl, _, rfl, _, _, rfl, rfl, (show (0 : Int) < top by omega), ?_⟩
    exact q _ H' (emodB f (by omega)).1 (emodB f (by omega)).2 st
theorem cl__law_great {X : Cx} {p pos : Pos} {e : Expr} {es : List Expr} {t : TA} (T : Txt K mg) (hr : Room 2 X.A) (ha : PA X (e :: es) t) (hg : Gl X "_law_great" := by rfl)
    (he : starEach (e :: es) X.env = (false, eval e X.env) :: starEach es X.env := by rfl) (hpl : (backTo pos (starEach es X.env)).any (·.1) = false := by rfl) (hK : X.K = K := by rfl) (hmg : X.mg = mg := by rfl) :
    PE X (.Call (.Name "_law_great" p) (e :: es) [] pos) (tCall (sp__law_great K) [] E0 t) := by
  subst hK hmg
  exact pe_call (ok__law_great T) hr hg T.m__law_great T.F__law_great.kp T.b__law_great .nil pass0 ha (by decide) he hpl
/-! ### signed -/
def sp__law_signed (K : PySem.W.Frag) : Sp := fun vs H Q _ => ∃ (d l : Addr) (top : Int), vs = [.ref d, .int top] ∧ DeckAt H d l ∧ 1 ≤ top ∧ Bd 1000 top ∧
  ∀ (v : Int) (H' : Hp), -(top + 4) ≤ v → v ≤ top + 4 → Stp d l H H' → Q (.int v) H'
theorem ok__law_signed (T : Txt K mg) : FnOk P w K mg base CX0 3 T.a__law_signed T.d__law_signed ["_law_deck_here", "_law_top"] (sp__law_signed K) := by
  refine T.F__law_signed.ok sc__law_signed (fun vs H Q E h => ?_) (fun cdv A outer s H vs Q E hr h => ?_)
  · obtain ⟨d, l, top, rfl, _⟩ := h
    rfl
  obtain ⟨d, l, top, rfl, hD, h4, hb, q⟩ := h
  refine ⟨_, pss_cons (ps_set (i := 2) sc__law_signed.nd rfl (Or.inl rfl) (cl__law_draw T (hr.mono (by decide)) (pa_cons (pv 0) (pa_cons pe_int pa_nil))))
    (pss_cons (ps_if (pt_cmpR op_eq (pv 2) pe_int (nomark _)) (pss_one (ps_ret (pe_op op_sub (cl__law_draw T (hr.mono (by decide)) (pa_cons (pv 0) (pa_cons pe_int pa_nil))) pe_int))) pss_nil)
    (Evl.pss_cut (ps_set (i := 3) sc__law_signed.nd rfl (Or.inl rfl) (pe_ifExp (pt_cmpR op_eq (pv 2) pe_int (nomark _)) (pe_op op_sub (pe_op op_sub (pv 1) pe_int) (cl__law_draw T (hr.mono (by decide)) (pa_cons (pv 0) (pa_cons pe_int pa_nil)))) (cl__law_great T (hr.mono (by decide)) (pa_cons (pv 0) (pa_cons (pv 1) pa_nil)))))
    (pss_one (ps_ret (pe_ifExp (pt_cmpR op_eq (cl__law_draw T (hr.mono (by decide)) (pa_cons (pv 0) (pa_cons pe_int pa_nil))) pe_int (nomark _)) (pv 3) (pe_un un_neg (pv 3))))))), ?_⟩
  have small : ∀ n : Nat, n < 100 → Bd 2000 (n : Int) := fun n h => bdN (n := n) (by omega) (by omega) (Nat.lt_of_lt_of_le h (by decide))
  refine ⟨_, rfl, d, l, 5, rfl, hD, by decide, small 5 (by decide), fun way H1 w0 w1 st1 => ?_⟩
  refine ⟨_, rfl, rfl, _, rfl, ite2 (fun _ => ?_) (fun _ => ?_)⟩
  · refine ⟨_, rfl, d, l, 9, rfl, st1.post, by decide, small 9 (by decide), fun v H2 v0 v1 st2 => ?_⟩
    exact ⟨_, _, rfl, rfl, q _ H2 (by omega) (by omega) (st1.trans st2)⟩
  refine ⟨fun σ H3 => ∃ v : Int, σ = [some (.ref d), some (.int top), some (.int way), some (.int v)] ∧ 0 ≤ v + 3 ∧ v ≤ top ∧ Stp d l H H3, ?_, ?_⟩
  · refine ⟨_, rfl, rfl, _, rfl, ite2 (fun _ => ?_) (fun _ => ?_)⟩
    · refine ⟨_, rfl, _, _, rfl, rfl, _, rfl, d, l, 3, rfl, st1.post, by decide, small 3 (by decide), fun v H2 v0 v1 st2 => ?_⟩
      exact ⟨_, _, rfl, rfl, _, rfl, by omega, by omega, st1.trans st2⟩
    · refine ⟨_, rfl, _, rfl, d, l, top, rfl, st1.post, by omega, hb, fun v H2 v0 v1 st2 => ?_⟩
      exact ⟨v, rfl, by omega, by omega, st1.trans st2⟩
  · rintro σ H3 ⟨v, rfl, v0, v1, st3⟩
    refine ⟨_, rfl, d, l, 2, rfl, st3.post, by decide, small 2 (by decide), fun z H4 z0 z1 st4 => ?_⟩
    refine ⟨rfl, _, rfl, ite2 (fun _ => ?_) (fun _ => ?_)⟩
    · exact ⟨_, rfl, q _ H4 (by omega) (by omega) (st3.trans st4)⟩
    · exact ⟨_, rfl, _, rfl, q _ H4 (by omega) (by omega) (st3.trans st4)⟩
theorem cl__law_signed {X : Cx} {p pos : Pos} {e : Expr} {es : List Expr} {t : TA} (T : Txt K mg) (hr : Room 3 X.A) (ha : PA X (e :: es) t) (hg : Gl X "_law_signed" := by rfl)
    (he : starEach (e :: es) X.env = (false, eval e X.env) :: starEach es X.env := by rfl) (hpl : (backTo pos (starEach es X.env)).any (·.1) = false := by rfl) (hK : X.K = K := by rfl) (hmg : X.mg = mg := by rfl) :
    PE X (.Call (.Name "_law_signed" p) (e :: es) [] pos) (tCall (sp__law_signed K) [] E0 t) := by
  subst hK hmg
  exact pe_call (ok__law_signed T) hr hg T.m__law_signed T.F__law_signed.kp T.b__law_signed .nil pass0 ha (by decide) he hpl
/-! ### product -/
def prodI (ns : List Nat) : Nat := ns.foldl (fun a b => a * b) 1
theorem prodI_snoc (ns : List Nat) (n : Nat) : prodI (ns ++ [n]) = prodI ns * n := by
  unfold prodI
  rw [List.foldl_append]
  rfl
theorem prodI_pos : ∀ {ns : List Nat}, (∀ n ∈ ns, 1 ≤ n) → ∀ a, 1 ≤ a → a ≤ ns.foldl (fun a b => a * b) a
  | [], _, a, _ => Nat.le_refl a
  | n :: r, h, a, ha => by
    have h1 := h n List.mem_cons_self
    have h2 : a ≤ a * n := Nat.le_mul_of_pos_right a h1
    exact Nat.le_trans h2 (prodI_pos (fun m hm => h m (List.mem_cons_of_mem _ hm)) (a * n) (Nat.le_trans ha h2))
theorem prodI_take {ns : List Nat} (h : ∀ n ∈ ns, 1 ≤ n) (i : Nat) : 1 ≤ prodI (ns.take i) ∧ prodI (ns.take i) ≤ prodI ns := by
  have h1 : 1 ≤ prodI (ns.take i) := prodI_pos (fun m hm => h m (List.mem_of_mem_take hm)) 1 (Nat.le_refl 1)
  refine ⟨h1, ?_⟩
  have e : prodI ns = (ns.drop i).foldl (fun a b => a * b) (prodI (ns.take i)) := by
    unfold prodI
    rw [← List.foldl_append, List.take_append_drop]
  rw [e]
  exact prodI_pos (fun m hm => h m (List.mem_of_mem_drop hm)) _ h1
def sp__law_product (K : PySem.W.Frag) : Sp := fun vs H Q _ => ∃ (a : Addr) (ns : List Nat), vs = [.ref a] ∧ SqL K H a ((intsN ns).map V.int) ∧ (∀ n ∈ ns, 1 ≤ n) ∧ prodI ns < 2 ^ 1000 ∧ Q (.int ((prodI ns : Nat) : Int)) H
theorem ok__law_product (T : Txt K mg) : FnOk P w K mg base CX0 1 T.a__law_product T.d__law_product ["_law_some"] (sp__law_product K) := by
  refine T.F__law_product.ok sc__law_product (fun vs H Q E h => ?_) (fun cdv A outer s H vs Q E hr h => ?_)
  · obtain ⟨a, ns, rfl, _⟩ := h
    rfl
  obtain ⟨a, ns, rfl, hs, h1, hb, q⟩ := h
  refine ⟨_, pss_cons (ps_set (i := 1) sc__law_product.nd rfl (Or.inl rfl) pe_int)
    (pss_cons (ps_for PassesOwn.never rfl (pi_list (pv 0)) (pg_name (i := 2) sc__law_product.nd rfl (Or.inl rfl)) (pss_one (ps_set (i := 1) sc__law_product.nd rfl (Or.inl rfl) (pe_op op_mulW (pv 1) (pv 2)))))
    (pss_one (ps_ret (pv 1)))), ?_⟩
  refine ⟨_, rfl, a, rfl, ⟨_, hs⟩, for_list (xs := (intsN ns).map V.int) (fun i σ H' => ∃ z, σ = [some (.ref a), some (.int ((prodI (ns.take i) : Nat) : Int)), z] ∧ H = H') ⟨none, rfl, rfl⟩ ?_ ?_ ?_⟩
  · rintro i σ H' _ ⟨z, rfl, rfl⟩
    exact hs
  · rintro i x σ H' hx ⟨z, rfl, rfl⟩
    rw [List.getElem?_map, List.getElem?_map] at hx
    obtain ⟨n, hn, rfl⟩ : ∃ n, ns[i]? = some n ∧ V.int (n : Int) = x := by
      cases e : ns[i]? with
      | none => rw [e] at hx; cases hx
      | some y => rw [e] at hx; exact ⟨y, rfl, Option.some.inj hx⟩
    have p1 := prodI_take h1 i
    have p2 := prodI_take h1 (i + 1)
    have e3 : ns.take (i + 1) = ns.take i ++ [n] := by rw [List.take_add_one, hn]; rfl
    rw [e3, prodI_snoc] at p2
    have hn2 : n ≤ prodI (ns.take i) * n := Nat.le_mul_of_pos_left n p1.1
    have b1 : Bd 1000 ((prodI (ns.take i) : Nat) : Int) := by unfold Bd; omega
    have b2 : Bd 1000 (n : Int) := by unfold Bd; omega
    refine ⟨_, rfl, _, rfl, _, _, rfl, rfl, b1.mulOk b2, some (.int (n : Int)), ?_, rfl⟩
    rw [e3, prodI_snoc, Int.natCast_mul]
    rfl
  · rintro σ H' ⟨z, rfl, rfl⟩
    have e : ns.take ((intsN ns).map V.int).length = ns := by simp
    rw [e]
    exact ⟨_, rfl, q⟩
theorem cl__law_product {X : Cx} {p pos : Pos} {e : Expr} {es : List Expr} {t : TA} (T : Txt K mg) (hr : Room 1 X.A) (ha : PA X (e :: es) t) (hg : Gl X "_law_product" := by rfl)
    (he : starEach (e :: es) X.env = (false, eval e X.env) :: starEach es X.env := by rfl) (hpl : (backTo pos (starEach es X.env)).any (·.1) = false := by rfl) (hK : X.K = K := by rfl) (hmg : X.mg = mg := by rfl) :
    PE X (.Call (.Name "_law_product" p) (e :: es) [] pos) (tCall (sp__law_product K) [] E0 t) := by
  subst hK hmg
  exact pe_call (ok__law_product T) hr hg T.m__law_product T.F__law_product.kp T.b__law_product .nil pass0 ha (by decide) he hpl
end
end KL
namespace KL
open PySem PySem.Spec PyProof.Rows L2 RZ StX SrtO Kw KM
section
variable {P : Program} {w : World} {K : PySem.W.Frag} {mg : Str → Option Value} {base : Heap}
theorem ok__law_along (T : Txt K mg) : FnOk P w K mg base CX0 1 T.a__law_along T.d__law_along ["_law_c", "_law_x"] (sp_dot K) := by
  refine T.F__law_along.ok sc__law_along (fun vs H Q E h => ?_) (fun cdv A outer s H vs Q E hr h => ?_)
  · obtain ⟨a, b, cs, xs, rfl, _⟩ := h
    rfl
  obtain ⟨a, b, cs, xs, rfl, ha, hb, hl, h3, hcb, hxb, q⟩ := h
  refine ⟨_, pss_one (ps_ret (pe_callB (cr_sum rfl) (by rfl) T.n_sum (by decide +kernel) (pa_cons (pe_lc (own := [("_law_one", 2), ("_law_other", 3)]) (g := gTup K 2 (gCons (gName 2) (gCons (gName 3) gNil))) rfl sc__law_along.nd (pi_zipA (by rfl) T.n_zip (pa_cons (pv 0) (pa_cons (pv 1) pa_nil))) (blkOk_by (N := N__law_along) (sc := defScope s__law_along) (by decide +kernel)) (fun _ _ _ _ _ => (pg_tup (by rfl) (pgs_cons (pg_name (i := 2) sc__law_along.nd rfl (Or.inl rfl)) (pgs_cons (pg_name (i := 3) sc__law_along.nd rfl (Or.inl rfl)) pgs_nil)))) (fun _ _ _ _ _ => pts_nil) (fun _ _ _ _ _ => (pe_op op_mulW (pv 2) (pv 3)))) pa_nil))), ?_⟩
  have hl' : (cs.map V.int).length = (xs.map V.int).length := by simp [hl]
  refine ⟨_, rfl, _, rfl, a, b, _, _, rfl, .inr ⟨ha, hb, fun D nD => lc_zipT hl' (Lc H D fun i => ((List.zipWith (fun a b => a * b) cs xs).take i).map V.int) (lc_start nD rfl) (fun _ _ h => ⟨h.1.sqt ha, h.1.sqt hb⟩) (fun i x y t H1 hx hy h nt => ?_) (fun H1 h => ?_)⟩⟩
  · rw [List.getElem?_map] at hx hy
    obtain ⟨c, hc, rfl⟩ := Option.map_eq_some_iff.mp hx
    obtain ⟨z, hz, rfl⟩ := Option.map_eq_some_iff.mp hy
    have sT := same_new nt (.tup [V.int c, V.int z])
    refine ⟨t, _, rfl, SqT.of upd_same, rfl, _, _, rfl, _, _, rfl, rfl, rfl, yes_ (iteT ?_)⟩
    refine ⟨_, rfl, _, rfl, _, _, rfl, rfl, (hcb c (List.mem_of_getElem? hc)).mulOk (hxb z (List.mem_of_getElem? hz)), ?_⟩
    refine lc_leaf nD (h.1.trans sT) (sT _ _ h.2) ?_ ?_
    · simp only [List.length_map, List.length_take, List.length_zipWith]
      omega
    · have e : (List.zipWith (fun a b => a * b) cs xs)[i]? = some (c * z) := by
        rw [List.getElem?_zipWith, hc, hz]
      rw [List.take_add_one, e, List.map_append]
      rfl
  · refine ⟨D, List.zipWith (fun a b => a * b) cs xs, rfl, ?_, q H1 h.1⟩
    have e : H1 D = some (.lst (((List.zipWith (fun a b => a * b) cs xs).take (cs.map V.int).length).map V.int)) := h.2
    rw [List.take_of_length_le (by simp; omega)] at e
    exact SqL.of e
theorem cl__law_along {X : Cx} {p pos : Pos} {e : Expr} {es : List Expr} {t : TA} (T : Txt K mg) (hr : Room 1 X.A) (ha : PA X (e :: es) t) (hg : Gl X "_law_along" := by rfl)
    (he : starEach (e :: es) X.env = (false, eval e X.env) :: starEach es X.env := by rfl) (hpl : (backTo pos (starEach es X.env)).any (·.1) = false := by rfl) (hK : X.K = K := by rfl) (hmg : X.mg = mg := by rfl) :
    PE X (.Call (.Name "_law_along" p) (e :: es) [] pos) (tCall (sp_dot K) [] E0 t) := by
  subst hK hmg
  exact pe_call (ok__law_along T) hr hg T.m__law_along T.F__law_along.kp T.b__law_along .nil pass0 ha (by decide) he hpl
/-! ### common -/
def sp__law_common : Sp := fun vs H Q _ => ∃ a b : Int, vs = [.int a, .int b] ∧ Q (.int ((Nat.gcd a.natAbs b.natAbs : Nat) : Int)) H
theorem abs_nat (i : Int) : (if i < 0 then -i else i) = ((i.natAbs : Nat) : Int) := by
  split <;> omega
theorem ok__law_common (T : Txt K mg) : FnOk P w K mg base CX0 1 T.a__law_common T.d__law_common ["_law_one", "_law_other"] sp__law_common := by
  refine T.F__law_common.ok sc__law_common (fun vs H Q E h => ?_) (fun cdv A outer s H vs Q E hr h => ?_)
  · obtain ⟨a, b, rfl, _⟩ := h
    rfl
  obtain ⟨a, b, rfl, q⟩ := h
  refine ⟨_, pss_cons (ps_par (i := 0) (j := 1) (by rfl) sc__law_common.nd rfl rfl (by decide) rfl rfl (pa_cons (pe_callB call_abs (by rfl) T.n_abs (by decide +kernel) (pa_cons (pv 0) pa_nil)) (pa_cons (pe_callB call_abs (by rfl) T.n_abs (by decide +kernel) (pa_cons (pv 1) pa_nil)) pa_nil)) (by rfl))
    (pss_cons (ps_while PassesOwn.never (pt_cmpR op_gt (pv 1) pe_int (nomark _)) (pss_one (ps_par (i := 0) (j := 1) (by rfl) sc__law_common.nd rfl rfl (by decide) rfl rfl (pa_cons (pv 1) (pa_cons (pe_op op_mod (pe_callTy call_int1 (by rfl) T.n_int (by decide +kernel) (pa_cons (pv 0) pa_nil)) (pv 1)) pa_nil)) (by rfl))))
    (pss_one (ps_ret (pv 0)))), ?_⟩
  refine ⟨_, rfl, _, rfl, _, rfl, _, rfl, _, _, rfl, ?_⟩
  refine ⟨fun m σ H' => ∃ x y : Nat, σ = [some (.int x), some (.int y)] ∧ Nat.gcd x y = Nat.gcd a.natAbs b.natAbs ∧ m = y ∧ H = H', ⟨_, a.natAbs, b.natAbs, ?_, rfl, rfl, rfl⟩, ?_⟩
  · show [some (V.int (if a < 0 then -a else a)), some (V.int (if b < 0 then -b else b))] = _
    rw [abs_nat, abs_nat]
  rintro m σ H' ⟨x, y, rfl, hg, rfl, rfl⟩
  refine ⟨_, rfl, _, _, rfl, rfl, _, rfl, ite2 (fun c => ?_) (fun c => ?_)⟩
  · have c : (0 : Int) < m := of_decide_eq_true c
    refine ⟨fun σ H2 => ∃ x y' : Nat, σ = [some (.int x), some (.int y')] ∧ Nat.gcd x y' = Nat.gcd a.natAbs b.natAbs ∧ y' < m ∧ H = H2, ?_, ?_⟩
    · rintro σ' H2 ⟨x', y', e1, e2, e3, e4⟩
      exact ⟨y', e3, x', y', e1, e2, rfl, e4⟩
    · refine ⟨_, rfl, _, rfl, .inl ⟨_, rfl, _, rfl, _, _, rfl, rfl, c, _, _, rfl, m, x % m, ?_, ?_, Nat.mod_lt _ (by omega), rfl⟩⟩
      · rw [Int.natCast_emod]
        rfl
      · rw [← hg, Nat.gcd_comm x m, Nat.gcd_rec m x, Nat.gcd_comm]
  · have c : ¬ (0 : Int) < m := fun z => c (decide_eq_true z)
    obtain rfl : m = 0 := by omega
    rw [Nat.gcd_zero_right] at hg
    rw [← hg] at q
    exact ⟨_, rfl, q⟩
theorem cl__law_common {X : Cx} {p pos : Pos} {e : Expr} {es : List Expr} {t : TA} (T : Txt K mg) (hr : Room 1 X.A) (ha : PA X (e :: es) t) (hg : Gl X "_law_common" := by rfl)
    (he : starEach (e :: es) X.env = (false, eval e X.env) :: starEach es X.env := by rfl) (hpl : (backTo pos (starEach es X.env)).any (·.1) = false := by rfl) (hK : X.K = K := by rfl) (hmg : X.mg = mg := by rfl) :
    PE X (.Call (.Name "_law_common" p) (e :: es) [] pos) (tCall sp__law_common [] E0 t) := by
  subst hK hmg
  exact pe_call (ok__law_common T) hr hg T.m__law_common T.F__law_common.kp T.b__law_common .nil pass0 ha (by decide) he hpl
/-! ### moved -/
def movI (xs ts : List Int) (k : Int) : List Int := List.zipWith (fun a b => a + k * b) xs ts
def sp__law_moved (K : PySem.W.Frag) : Sp := fun vs H Q _ => ∃ (a b : Addr) (xs ts : List Int) (k : Int), vs = [.ref a, .ref b, .int k] ∧ SqT K H a (xs.map V.int) ∧ SqT K H b (ts.map V.int) ∧ xs.length = ts.length ∧ xs.length ≤ 3 ∧
  (∀ x ∈ ts, Bd 2000 x) ∧ Bd 2000 k ∧ ∀ p H', Same H H' → H p = none → SqT K H' p ((movI xs ts k).map V.int) → Q (.ref p) H'
/-! ### is_due -/
end
end KL
namespace KL
open PySem PySem.Spec PyProof.Rows L2 RZ StX SrtO Kw KM
/-- the list of pairs (prime, power) at a -/
structure PwAt (K : PySem.W.Frag) (H : Hp) (a : Addr) (pw : List (Nat × Nat)) : Prop where
  ex : ∃ as : List Addr, SqL K H a (as.map V.ref) ∧ as.length = pw.length ∧ ∀ (i : Nat) (t : Addr) (x : Nat × Nat), as[i]? = some t → pw[i]? = some x → SqT K H t [.int x.1, .int ((qOf x : Nat) : Int)]
theorem PwAt.stp {K : PySem.W.Frag} {d l a : Addr} {H H' : Hp} {pw : List (Nat × Nat)} (s : Stp d l H H') (n : a ≠ l) (h : PwAt K H a pw) : PwAt K H' a pw := by
  obtain ⟨as, h1, h2, h3⟩ := h.ex
  exact ⟨as, s.sqlO n h1, h2, fun i t x e1 e2 => s.sqt (h3 i t x e1 e2)⟩
theorem PwAt.same {K : PySem.W.Frag} {a : Addr} {H H' : Hp} {pw : List (Nat × Nat)} (s : Same H H') (h : PwAt K H a pw) : PwAt K H' a pw := by
  obtain ⟨as, h1, h2, h3⟩ := h.ex
  exact ⟨as, s.seq h1, h2, fun i t x e1 e2 => s.sqt (h3 i t x e1 e2)⟩
section
variable {P : Program} {w : World} {K : PySem.W.Frag} {mg : Str → Option Value} {base : Heap}
theorem pairs_at {as : List Addr} {pw : List (Nat × Nat)} {i : Nat} {v : V} (hl : as.length = pw.length) (h : (as.map V.ref)[i]? = some v) : ∃ t x, as[i]? = some t ∧ pw[i]? = some x ∧ v = .ref t ∧ i < pw.length := by
  rw [List.getElem?_map] at h
  obtain ⟨t, ht, rfl⟩ := Option.map_eq_some_iff.mp h
  have hi := (List.getElem?_eq_some_iff.mp ht).1
  exact ⟨t, pw[i]'(hl ▸ hi), ht, List.getElem?_eq_getElem (hl ▸ hi), rfl, hl ▸ hi⟩
/-! ### unit -/
def sp__law_unit (K : PySem.W.Frag) : Sp := fun vs H Q _ => ∃ (d l a : Addr) (pw : List (Nat × Nat)), vs = [.ref d, .ref a, .int ((mOf pw : Nat) : Int)] ∧ DeckAt H d l ∧ PerD pw ∧ PwAt K H a pw ∧ a ≠ l ∧
  ∀ (u : Nat) (H' : Hp), (∀ x ∈ pw, ¬ x.1 ∣ u) → Bd 200 (u : Int) → Stp d l H H' → Q (.int (u : Int)) H'
theorem ok__law_unit (T : Txt K mg) : FnOk P w K mg base CX0 3 T.a__law_unit T.d__law_unit ["_law_deck_here", "_law_powers_here", "_law_m"] (sp__law_unit K) := by
  refine T.F__law_unit.ok sc__law_unit (fun vs H Q E h => ?_) (fun cdv A outer s H vs Q E hr h => ?_)
  · obtain ⟨d, l, a, pw, rfl, _⟩ := h
    rfl
  obtain ⟨d, l, a, pw, rfl, hD, hP, hA, hal, q⟩ := h
  refine ⟨_, pss_cons (ps_set (i := 3) sc__law_unit.nd rfl (Or.inl rfl) (cl__law_great T (hr.mono (by decide)) (pa_cons (pv 0) (pa_cons (pv 2) pa_nil))))
    (pss_cons (ps_for PassesOwn.never rfl (pi_list (pv 1)) (pg_tup (by rfl) (pgs_cons (pg_name (i := 4) sc__law_unit.nd rfl (Or.inl rfl)) (pgs_cons (pg_name (i := 5) sc__law_unit.nd rfl (Or.inl rfl)) pgs_nil))) (pss_one (ps_if (pt_cmpR op_eq (pe_op op_mod (pe_callTy call_int1 (by rfl) T.n_int (by decide +kernel) (pa_cons (pv 3) pa_nil)) (pv 4)) pe_int (nomark _)) (pss_one (ps_set (i := 3) sc__law_unit.nd rfl (Or.inl rfl) (pe_op op_add (pv 3) (pe_op op_fdivW (pv 2) (pv 5))))) pss_nil)))
    (pss_one (ps_ret (pv 3)))), ?_⟩
  have hm := mOf_pos hP.ok
  have hlt := hP.lt
  have bm : Bd 133 ((mOf pw : Nat) : Int) := by
    unfold Bd
    have : (10 : Nat) ^ 40 < 2 ^ 133 := by decide
    omega
  refine ⟨_, rfl, _, rfl, d, l, _, rfl, hD, by omega, bm.mono (by decide), fun v H1 v0 v1 st1 => ?_⟩
  obtain ⟨as, ha, hl, hi⟩ := (hA.stp st1 hal).ex
  have v' : ∃ n : Nat, v = (n : Int) ∧ n < mOf pw := ⟨v.toNat, by omega, by omega⟩
  obtain ⟨n, rfl, hn⟩ := v'
  refine ⟨_, rfl, a, rfl, ⟨_, ha⟩, for_list (xs := as.map V.ref) (fun i σ H' => ∃ (u : Nat) (y z : Option V), σ = [some (.ref d), some (.ref a), some (.int ((mOf pw : Nat) : Int)), some (.int (u : Int)), y, z] ∧ H1 = H' ∧ u < (i + 1) * 10 ^ 40 ∧ ∀ (j : Nat) (x : Nat × Nat), j < i → pw[j]? = some x → ¬ x.1 ∣ u) ⟨n, none, none, rfl, rfl, by omega, fun _ _ h => absurd h (Nat.not_lt_zero _)⟩ ?_ ?_ ?_⟩
  · rintro i σ H' _ ⟨u, y, z, rfl, rfl, _⟩
    exact ha
  · rintro i v σ H' hx ⟨u, y, z, rfl, rfl, hu, hok⟩
    obtain ⟨t, x, ht, hxp, rfl, hilt⟩ := pairs_at hl hx
    have tup := hi i t x ht hxp
    have hmem := List.mem_of_getElem? hxp
    have hxP := hP.ok.mem hmem
    have x2 := PN_lt _ hxP
    have qx := qOf_le hP.ok hmem
    refine ⟨t, _, rfl, tup, rfl, _, _, rfl, _, _, rfl, rfl, ?_⟩
    refine ⟨_, rfl, .inl ⟨_, rfl, _, rfl, _, _, rfl, rfl, (show (0 : Int) < (x.1 : Nat) by omega), rfl, _, rfl, ite2 (fun c => ?_) (fun c => ?_)⟩⟩
    · have c : (u : Int) % (x.1 : Nat) = 0 := V.int.inj (of_decide_eq_true c)
      have dx : x.1 ∣ u := Nat.dvd_of_mod_eq_zero (by omega)
      refine ⟨_, rfl, _, rfl, _, rfl, _, _, rfl, rfl, Bd.divOk (b := 133) (by omega) (by unfold Bd at *; omega) (by decide) _, _, _, rfl, rfl, ?_⟩
      refine ⟨u + mOf pw / qOf x, some (.int (x.1 : Int)), some (.int ((qOf x : Nat) : Int)), ?_, rfl, ?_, ?_⟩
      · rw [Int.natCast_add, Int.natCast_ediv]
        rfl
      · have := Nat.div_le_self (mOf pw) (qOf x)
        rw [Nat.add_mul (i + 1) 1]
        omega
      · intro j y hj hy dv
        have hym := List.mem_of_getElem? hy
        by_cases e : y.1 = x.1
        · have := (Nat.dvd_add_right (e ▸ dx)).mp dv
          exact (cof_dvd hP.ok hmem hym).mp this e
        · have dc := (cof_dvd hP.ok hmem hym).mpr e
          have du : y.1 ∣ u := (Nat.dvd_add_left dc).mp dv
          have hji : j ≠ i := by
            rintro rfl
            rw [hxp] at hy
            exact e (by cases hy; rfl)
          exact hok j y (by omega) hy du
    · have c : ¬ (u : Int) % (x.1 : Nat) = 0 := fun z => c (decide_eq_true (congrArg V.int z))
      refine ⟨u, _, _, rfl, rfl, Nat.lt_of_lt_of_le hu (Nat.mul_le_mul_right _ (Nat.le_succ _)), fun j y hj hy dv => ?_⟩
      by_cases e : j = i
      · subst e
        rw [hxp] at hy
        cases hy
        have := Nat.mod_eq_zero_of_dvd dv
        omega
      · exact hok j y (by omega) hy dv
  · rintro σ H' ⟨u, y, z, rfl, rfl, hu, hok⟩
    rw [List.length_map, hl] at hu hok
    have pl := pw_len hP.ok
    refine ⟨_, rfl, q u H1 (fun x hx dv => ?_) ?_ st1⟩
    · obtain ⟨j, hj, e⟩ := List.mem_iff_getElem.mp hx
      exact hok j x hj (by rw [← e]; exact List.getElem?_eq_getElem hj) dv
    · unfold Bd
      exact mulB (B := 10 ^ 40) (C := 2 ^ 200) hu pl (by decide)
theorem cl__law_unit {X : Cx} {p pos : Pos} {e : Expr} {es : List Expr} {t : TA} (T : Txt K mg) (hr : Room 3 X.A) (ha : PA X (e :: es) t) (hg : Gl X "_law_unit" := by rfl)
    (he : starEach (e :: es) X.env = (false, eval e X.env) :: starEach es X.env := by rfl) (hpl : (backTo pos (starEach es X.env)).any (·.1) = false := by rfl) (hK : X.K = K := by rfl) (hmg : X.mg = mg := by rfl) :
    PE X (.Call (.Name "_law_unit" p) (e :: es) [] pos) (tCall (sp__law_unit K) [] E0 t) := by
  subst hK hmg
  exact pe_call (ok__law_unit T) hr hg T.m__law_unit T.F__law_unit.kp T.b__law_unit .nil pass0 ha (by decide) he hpl
end
end KL
namespace KL
open PySem PySem.Spec PyProof.Rows L2 RZ StX SrtO Kw KM
theorem Stp.upd {d l a : Addr} {H H' : Hp} {o : HO} (s : Stp d l H H') (n : H a = none) : Stp d l H (L2.upd H' a o) := by
  have n1 := s.pre.offd n
  have n2 := s.pre.off n
  refine ⟨s.pre, ?_, fun b u h1 h2 e => ?_⟩
  · obtain ⟨m, k, cs, e1, e2, e3⟩ := s.post.ex
    exact ⟨m, k, cs, by rw [upd_ne n1.symm]; exact e1, by rw [upd_ne n2.symm]; exact e2, e3⟩
  · rw [upd_ne (ne_of_none e n)]
    exact s.kp b u h1 h2 e
theorem Stp.same {d l : Addr} {H H1 H2 : Hp} (s : Stp d l H H1) (e : Same H1 H2) : Stp d l H H2 := s.trans (s.post.stp e)
/-- new behind a step: not there ahead of it -/
theorem Stp.free {d l a : Addr} {H H' : Hp} (s : Stp d l H H') (n : H' a = none) : H a = none := by
  have n1 := s.post.offd n
  have n2 := s.post.off n
  cases e : H a with
  | none => rfl
  | some o =>
    have := s.kp a o n1 n2 e
    rw [this] at n
    cases n
theorem prodI_cons (n : Nat) (ns : List Nat) : prodI (n :: ns) = n * prodI ns := by
  unfold prodI
  have : ∀ (ns : List Nat) (a b : Nat), ns.foldl (fun a b => a * b) (a * b) = a * ns.foldl (fun a b => a * b) b := by
    intro ns
    induction ns with
    | nil => intro a b; rfl
    | cons x r ih => intro a b; simp only [List.foldl_cons]; rw [Nat.mul_assoc, ih]
  have h := this ns n 1
  simpa using h
theorem prodI_sub : ∀ {pw : List (Nat × Nat)}, Pw pw → ∀ {ns : List Nat}, ns.Sublist (pw.map qOf) → (∀ n ∈ ns, 1 ≤ n) ∧ prodI ns ≤ mOf pw
  | [], _, ns, h => by
    obtain rfl : ns = [] := List.eq_nil_of_sublist_nil h
    exact ⟨fun n hn => absurd hn List.not_mem_nil, Nat.le_refl 1⟩
  | x :: r, hw, ns, h => by
    have q1 := (qOf_le hw List.mem_cons_self).1
    have m1 := mOf_pos hw.tail
    rw [List.map_cons] at h
    cases h with
    | cons _ h =>
      have ih := prodI_sub hw.tail h
      exact ⟨ih.1, Nat.le_trans ih.2 (Nat.le_mul_of_pos_left _ q1)⟩
    | cons_cons _ h =>
      have ih := prodI_sub hw.tail h
      refine ⟨fun n hn => ?_, ?_⟩
      · rcases List.mem_cons.mp hn with rfl | hn
        · exact q1
        · exact ih.1 n hn
      · rw [prodI_cons]
        exact Nat.mul_le_mul_left _ ih.2
end KL
namespace KL
open PySem PySem.Spec PyProof.Rows L2 RZ StX SrtO Kw KM
theorem eqv_nil (cs : List Int) : PyData.eqv (.list (cs.map PyData.int)) (.list []) = decide (cs = []) := by
  cases cs <;> rfl
theorem set_intsN (cs : List Nat) (k v : Nat) : ((intsN cs).map V.int).set k (.int (v : Int)) = (intsN (cs.set k v)).map V.int := by
  unfold intsN
  rw [List.map_set, List.map_set]
/-- one number mended at one prime -/
theorem mend {pw : List (Nat × Nat)} (hw : Pw pw) {x : Nat × Nat} (hx : x ∈ pw) {cs : List Nat} (all : ∀ c ∈ cs, x.1 ∣ c) {k : Nat} (hk : k < cs.length) :
    (¬ x.1 ∣ (cs[k] + mOf pw / qOf x) % mOf pw) ∧ ∀ y ∈ pw, y.1 ≠ x.1 → ¬ y.1 ∣ cs[k] → ¬ y.1 ∣ (cs[k] + mOf pw / qOf x) % mOf pw := by
  have md : ∀ y ∈ pw, ∀ n : Nat, y.1 ∣ n % mOf pw ↔ y.1 ∣ n := fun y hy n => Nat.dvd_mod_iff ((dvd_mOf (hw.mem hy) hw).mpr (List.mem_map_of_mem hy))
  constructor
  · rw [md x hx]
    intro d
    have d2 := (Nat.dvd_add_right (all _ (List.getElem_mem hk))).mp d
    exact (cof_dvd hw hx hx).mp d2 rfl
  · intro y hy ne nd
    rw [md y hy]
    intro d
    exact nd ((Nat.dvd_add_left ((cof_dvd hw hx hy).mpr ne)).mp d)
section
variable {P : Program} {w : World} {K : PySem.W.Frag} {mg : Str → Option Value} {base : Heap}
def sp__law_numbers (K : PySem.W.Frag) : Sp := fun vs H Q _ => ∃ (d l a : Addr) (pw : List (Nat × Nat)) (dd : Nat), vs = [.ref d, .ref a, .int ((mOf pw : Nat) : Int), .int dd] ∧ DeckAt H d l ∧ PerD pw ∧ PwAt K H a pw ∧ a ≠ l ∧ 1 ≤ dd ∧ dd ≤ 3 ∧
  ∀ (p : Addr) (cs : List Nat) (H' : Hp), Stp d l H H' → SqT K H' p ((intsN cs).map V.int) → cs.length = dd → (∀ c ∈ cs, c < mOf pw) → (∀ x ∈ pw, ∃ c ∈ cs, ¬ x.1 ∣ c) → Q (.ref p) H'
theorem lt_shift {a b n i : Nat} (ha : a < 2 ^ (134 * i)) (hb : b < 2 ^ 134) (e : n = i + 1) : a * b < 2 ^ (134 * n) := by
  subst e
  rw [Nat.mul_add, Nat.mul_one, Nat.pow_add]
  exact Nat.mul_lt_mul'' ha hb
theorem ok__law_numbers (T : Txt K mg) : FnOk P w K mg base CX0 3 T.a__law_numbers T.d__law_numbers ["_law_deck_here", "_law_powers_here", "_law_m", "_law_d"] (sp__law_numbers K) := by
  refine T.F__law_numbers.ok sc__law_numbers (fun vs H Q E h => ?_) (fun cdv A outer s H vs Q E hr h => ?_)
  · obtain ⟨d, l, a, pw, dd, rfl, _⟩ := h
    rfl
  obtain ⟨d, l, a, pw, dd, rfl, hD, hP, hA, hal, h1, h3, q⟩ := h
  refine ⟨_, pss_cons (ps_set (i := 4) sc__law_numbers.nd rfl (Or.inl rfl) (pe_lst pa_nil))
    (Evl.pss_cut (ps_for PassesOwn.never rfl (pi_range1 (by rfl) T.n_range (pa_cons (pv 3) pa_nil)) (pg_name (i := 5) sc__law_numbers.nd rfl (Or.inl rfl)) (pss_cons (ps_par (i := 6) (j := 7) (by rfl) sc__law_numbers.nd rfl rfl (by decide) rfl rfl (pa_cons (cl__law_draw T (hr.mono (by decide)) (pa_cons (pv 0) (pa_cons pe_int pa_nil))) (pa_cons (cl__law_great T (hr.mono (by decide)) (pa_cons (pv 0) (pa_cons (pv 2) pa_nil))) pa_nil)) (by rfl))
        (Evl.pss_cut (ps_for PassesOwn.never rfl (pi_list (pv 1)) (pg_tup (by rfl) (pgs_cons (pg_name (i := 8) sc__law_numbers.nd rfl (Or.inr rfl)) (pgs_cons (pg_name (i := 9) sc__law_numbers.nd rfl (Or.inl rfl)) pgs_nil))) (pss_one (ps_if (PW.pt (pw_and (pt_cmpR op_gt (pv 6) pe_int (nomark _)) (pw_and1 (pt_cmpR op_eq (cl__law_draw T (hr.mono (by decide)) (pa_cons (pv 0) (pa_cons pe_int pa_nil))) pe_int (nomark _))))) (pss_one (ps_set (i := 7) sc__law_numbers.nd rfl (Or.inl rfl) (pe_op op_mulW (pv 7) (cl__law_pick T (hr.mono (by decide)) (pa_cons (pv 0) (pa_cons (pe_lst (pa_cons (pv 8) (pa_cons (pe_op op_mul (pv 8) (pv 8)) (pa_cons (pe_op op_fdivW (pv 9) (pv 8)) (pa_cons (pv 9) pa_nil))))) pa_nil)))))) pss_nil)))
        (pss_one (ps_expr (pe_bm PySem.F.plainAttrs_list PySem.F.slot_list_append PySem.F.type_list_append mt_append (pv 4) (pa_cons (pe_op op_mod (pe_callTy call_int1 (by rfl) T.n_int (by decide +kernel) (pa_cons (pe_ifExp (pt_cmpR op_eq (pv 6) pe_int (nomark _)) pe_int (pv 7)) pa_nil)) (pv 2)) pa_nil)))))))
    (Evl.pss_cut (ps_for PassesOwn.never rfl (pi_list (pv 1)) (pg_tup (by rfl) (pgs_cons (pg_name (i := 8) sc__law_numbers.nd rfl (Or.inr rfl)) (pgs_cons (pg_name (i := 9) sc__law_numbers.nd rfl (Or.inl rfl)) pgs_nil))) (pss_one (ps_if (pt_cmpR (op_eqD hr.units) (pe_lc (own := [("_law_x", 10)]) rfl sc__law_numbers.nd (pi_list (pv 4)) (blkOk_by (N := N__law_numbers) (sc := defScope s__law_numbers) (by decide +kernel)) (fun _ _ _ _ _ => (pg_name (i := 10) sc__law_numbers.nd rfl (Or.inl rfl))) (fun _ _ _ _ _ => (pts_one (pt_cmpR op_gt (pe_op op_mod (pe_callTy call_int1 (by rfl) T.n_int (by decide +kernel) (pa_cons (pv 10) pa_nil)) (pv 8)) pe_int (nomark _)))) (fun _ _ _ _ _ => (pv 10))) (pe_lst pa_nil) (nomark _)) (pss_cons (ps_set (i := 5) sc__law_numbers.nd rfl (Or.inl rfl) (cl__law_draw T (hr.mono (by decide)) (pa_cons (pv 0) (pa_cons (pv 3) pa_nil))))
            (pss_one (ps_asg (pe_op op_mod (pe_callTy call_int1 (by rfl) T.n_int (by decide +kernel) (pa_cons (pe_op op_add (pe_ix ix_list (pv 4) (pv 5) (fun _ _ => rfl)) (pe_op op_fdivW (pv 2) (pv 9))) pa_nil)) (pv 2)) (pg_sub (pv 4) (pv 5) set_list)))) pss_nil)))
    (pss_one (ps_ret (pe_callTy call_tuple_of (by rfl) T.n_tuple (by decide +kernel) (pa_cons (pv 4) pa_nil)))))), ?_⟩
  have hm := mOf_pos hP.ok
  have hlt := hP.lt
  have bm : Bd 133 ((mOf pw : Nat) : Int) := by
    unfold Bd
    have : (10 : Nat) ^ 40 < 2 ^ 133 := by decide
    omega
  have hlen := pw_len hP.ok
  have small : ∀ n : Nat, n < 100 → Bd 2000 (n : Int) := fun n h => bdN (n := n) (by omega) (by omega) (Nat.lt_of_lt_of_le h (by decide))
  obtain ⟨as, ha, hl, hi⟩ := hA.ex
  refine ⟨Nat.zero_le _, fun fo nfo => ?_⟩
  have nfl := hD.off nfo
  refine ⟨fun σ H' => ∃ (cs : List Nat) (x5 x6 x7 x8 x9 : Option V), σ = [some (.ref d), some (.ref a), some (.int ((mOf pw : Nat) : Int)), some (.int (dd : Int)), some (.ref fo), x5, x6, x7, x8, x9, none] ∧ Stp d l H H' ∧ H' fo = some (.lst ((intsN cs).map V.int)) ∧ cs.length = dd ∧ ∀ c ∈ cs, c < mOf pw, ?_, ?_⟩
  · -- the numbers are drawn
    refine ⟨_, rfl, dd, rfl, by omega, by omega, for_range (lo := 0) (n := ((dd : Nat) : Int).toNat) (fun i σ H' => ∃ (cs : List Nat) (x5 x6 x7 x8 x9 : Option V), σ = [some (.ref d), some (.ref a), some (.int ((mOf pw : Nat) : Int)), some (.int (dd : Int)), some (.ref fo), x5, x6, x7, x8, x9, none] ∧ Stp d l H H' ∧ H' fo = some (.lst ((intsN cs).map V.int)) ∧ cs.length = i ∧ ∀ c ∈ cs, c < mOf pw) ⟨[], none, none, none, none, none, rfl, hD.refl.upd nfo, upd_same, rfl, fun _ h => absurd h List.not_mem_nil⟩ ?_ ?_⟩
    · rintro i σ H' hi' ⟨cs, x5, x6, x7, x8, x9, rfl, st, ef, el, hc⟩
      refine ⟨_, rfl, d, l, 6, rfl, st.post, by decide, small 6 (by decide), fun way H1 w0 w1 st1 => ?_⟩
      refine ⟨_, rfl, _, rfl, d, l, _, rfl, st1.post, by omega, bm.mono (by decide), fun num H2 n0 n1 st2 => ?_⟩
      obtain ⟨num, rfl⟩ : ∃ n : Nat, num = (n : Int) := ⟨num.toNat, by omega⟩
      refine ⟨_, _, rfl, ?_⟩
      have st12 := (st.trans st1).trans st2
      have ef2 := st2.lst nfl (st1.lst nfl ef)
      refine ⟨fun σ H3 => ∃ (num : Nat) (x8 x9 : Option V), σ = [some (.ref d), some (.ref a), some (.int ((mOf pw : Nat) : Int)), some (.int (dd : Int)), some (.ref fo), some (.int (0 + (i : Int))), some (.int way), some (.int (num : Int)), x8, x9, none] ∧ Stp d l H H3 ∧ H3 fo = some (.lst ((intsN cs).map V.int)), ?_, ?_⟩
      · refine ⟨_, rfl, a, rfl, ⟨_, st12.sqlO hal ha⟩, for_list (xs := as.map V.ref) (fun j σ H3 => ∃ (num : Nat) (x8 x9 : Option V), σ = [some (.ref d), some (.ref a), some (.int ((mOf pw : Nat) : Int)), some (.int (dd : Int)), some (.ref fo), some (.int (0 + (i : Int))), some (.int way), some (.int (num : Int)), x8, x9, none] ∧ Stp d l H H3 ∧ H3 fo = some (.lst ((intsN cs).map V.int)) ∧ num < 2 ^ (134 * (j + 1))) ⟨num, x8, x9, rfl, st12, ef2, ?_⟩ ?_ ?_ ?_⟩
        · have : (2 : Nat) ^ 133 < 2 ^ (134 * (0 + 1)) := by decide
          unfold Bd at bm
          omega
        · rintro j σ H3 _ ⟨_, _, _, rfl, st3, _⟩
          exact st3.sqlO hal ha
        · rintro j v σ H3 hx ⟨num, x8, x9, rfl, st3, ef3, hnum⟩
          obtain ⟨t, x, ht, hxp, rfl, hj⟩ := pairs_at hl hx
          have hmem := List.mem_of_getElem? hxp
          have x2 := PN_lt _ (hP.ok.mem hmem)
          have qx := qOf_le hP.ok hmem
          have qb : qOf x < 2 ^ 133 := by unfold Bd at bm; omega
          have stay : num < 2 ^ (134 * (j + 1 + 1)) := Nat.lt_of_lt_of_le hnum (Nat.pow_le_pow_right (by decide) (by omega))
          refine ⟨t, _, rfl, st3.sqt (hi j t x ht hxp), rfl, _, _, rfl, _, _, rfl, rfl, ?_⟩
          refine ⟨_, rfl, _, _, rfl, rfl, _, rfl, ite2 (fun _ => ?_) (fun c => ?_)⟩
          · refine ⟨_, rfl, d, l, 3, rfl, st3.post, by decide, small 3 (by decide), fun v H4 v0 v1 st4 => ?_⟩
            have ef4 := st4.lst nfl ef3
            have st34 := st3.trans st4
            refine ⟨rfl, _, rfl, ite2 (fun _ => ?_) (fun _ => ?_)⟩
            · refine ⟨_, rfl, _, rfl, _, rfl, _, rfl, _, rfl, _, _, rfl, rfl, .inl ⟨by omega, by omega⟩, _, rfl, _, rfl, _, _, rfl, rfl, Bd.divOk (b := 5) (by omega) (by unfold Bd; omega) (by decide) _, _, rfl, ?_, fun p np => ?_⟩
              · show 4 ≤ sizeLine
                decide
              have st5 := st34.same (same_new np (.lst [.int (x.1 : Int), .int ((x.1 : Int) * (x.1 : Int)), .int (((qOf x : Nat) : Int) / (x.1 : Int)), .int ((qOf x : Nat) : Int)]))
              have npl := st34.post.off np
              refine ⟨d, l, p, _, rfl, st5.post, SqL.of upd_same, npl, by show 1 ≤ 4; decide, by show 4 ≤ 1000; decide, fun z H6 hz st6 => ?_⟩
              have ef6 := st6.lst nfl ((same_new np _) _ _ ef4)
              have hz' : ∃ n : Nat, z = .int (n : Int) ∧ n < 2 ^ 134 := by
                have b134 : (2 : Nat) ^ 133 < 2 ^ 134 := by decide
                have b10 : 841 < (2 : Nat) ^ 134 := by decide
                simp only [List.mem_cons, List.not_mem_nil, or_false] at hz
                rcases hz with rfl | rfl | rfl | rfl
                · exact ⟨x.1, rfl, by omega⟩
                · refine ⟨x.1 * x.1, by rw [Int.natCast_mul], ?_⟩
                  have : x.1 * x.1 ≤ 29 * 29 := Nat.mul_le_mul x2.2 x2.2
                  omega
                · refine ⟨qOf x / x.1, by rw [Int.natCast_ediv], ?_⟩
                  have := Nat.div_le_self (qOf x) x.1
                  omega
                · exact ⟨qOf x, rfl, by omega⟩
              obtain ⟨n, rfl, hn⟩ := hz'
              have bn : Bd (134 * (j + 1)) (num : Int) := by unfold Bd; omega
              have bn2 : Bd 134 (n : Int) := by unfold Bd; omega
              refine ⟨_, _, rfl, rfl, bn.mulOk bn2 (by omega), num * n, some (.int (x.1 : Int)), some (.int ((qOf x : Nat) : Int)), ?_, st5.trans st6, ef6, lt_shift hnum hn rfl⟩
              rw [Int.natCast_mul]
              rfl
            · exact ⟨num, _, _, rfl, st34, ef4, stay⟩
          · exact ⟨num, _, _, rfl, st3, ef3, stay⟩
        · rintro σ H3 ⟨num, x8, x9, rfl, st3, ef3, _⟩
          exact ⟨num, x8, x9, rfl, st3, ef3⟩
      · rintro σ H3 ⟨num, x8, x9, rfl, st3, ef3⟩
        have fin : ∀ n : Nat, ∃ (cs' : List Nat), (((intsN cs).map V.int) ++ [V.int ((n : Int) % ((mOf pw : Nat) : Int))]) = (intsN cs').map V.int ∧ cs'.length = i + 1 ∧ ∀ c ∈ cs', c < mOf pw := by
          intro n
          refine ⟨cs ++ [n % mOf pw], by simp [intsN], by simp [el], fun c hcm => ?_⟩
          rcases List.mem_append.mp hcm with k | k
          · exact hc c k
          · rw [List.mem_singleton.mp k]
            exact Nat.mod_lt _ (by omega)
        have room : ((intsN cs).map V.int).length < sizeLine := by
          simp only [List.length_map, el]
          exact Nat.lt_of_lt_of_le (show i < 4 by omega) (by decide)
        refine ⟨_, rfl, .inl ⟨rfl, _, SqL.of ef3⟩, _, rfl, rfl, _, rfl, ite2 (fun _ => ?_) (fun _ => ?_)⟩
        · refine .inl ⟨_, rfl, _, rfl, _, _, rfl, rfl, (show (0 : Int) < (mOf pw : Nat) by omega), fo, _, _, rfl, rfl, ef3, room, ?_⟩
          obtain ⟨cs', e1, e2, e3⟩ := fin 0
          refine ⟨cs', _, _, _, _, _, rfl, st3.upd nfo, ?_, e2, e3⟩
          rw [upd_same, ← e1]
          rfl
        · refine ⟨_, rfl, .inl ⟨_, rfl, _, rfl, _, _, rfl, rfl, (show (0 : Int) < (mOf pw : Nat) by omega), fo, _, _, rfl, rfl, ef3, room, ?_⟩⟩
          obtain ⟨cs', e1, e2, e3⟩ := fin num
          refine ⟨cs', _, _, _, _, _, rfl, st3.upd nfo, ?_, e2, e3⟩
          rw [upd_same, ← e1]
    · rintro σ H' ⟨cs, x5, x6, x7, x8, x9, rfl, st, ef, el, hc⟩
      exact ⟨cs, x5, x6, x7, x8, x9, rfl, st, ef, by rw [el]; omega, hc⟩
  · -- the numbers are mended
    rintro σ H0 ⟨cs0, x5, x6, x7, x8, x9, rfl, st0, ef0, el0, hc0⟩
    refine ⟨fun σ H' => ∃ (cs : List Nat) (x5 x6 x7 x8 x9 : Option V), σ = [some (.ref d), some (.ref a), some (.int ((mOf pw : Nat) : Int)), some (.int (dd : Int)), some (.ref fo), x5, x6, x7, x8, x9, none] ∧ Stp d l H H' ∧ H' fo = some (.lst ((intsN cs).map V.int)) ∧ cs.length = dd ∧ (∀ c ∈ cs, c < mOf pw) ∧ ∀ x ∈ pw, ∃ c ∈ cs, ¬ x.1 ∣ c, ?_, ?_⟩
    · refine ⟨_, rfl, a, rfl, ⟨_, st0.sqlO hal ha⟩, for_list (xs := as.map V.ref) (fun i σ H' => ∃ (cs : List Nat) (x5 x6 x7 x8 x9 : Option V), σ = [some (.ref d), some (.ref a), some (.int ((mOf pw : Nat) : Int)), some (.int (dd : Int)), some (.ref fo), x5, x6, x7, x8, x9, none] ∧ Stp d l H H' ∧ H' fo = some (.lst ((intsN cs).map V.int)) ∧ cs.length = dd ∧ (∀ c ∈ cs, c < mOf pw) ∧ ∀ (j : Nat) (x : Nat × Nat), j < i → pw[j]? = some x → ∃ c ∈ cs, ¬ x.1 ∣ c) ⟨cs0, x5, x6, x7, x8, x9, rfl, st0, ef0, el0, hc0, fun _ _ h => absurd h (Nat.not_lt_zero _)⟩ ?_ ?_ ?_⟩
      · rintro j σ H3 _ ⟨_, _, _, _, _, _, rfl, st3, _⟩
        exact st3.sqlO hal ha
      · rintro i v σ H' hx ⟨cs, x5, x6, x7, x8, x9, rfl, st, ef, el, hc, ok⟩
        obtain ⟨t, x, ht, hxp, rfl, hilt⟩ := pairs_at hl hx
        have hmem := List.mem_of_getElem? hxp
        have hxP := hP.ok.mem hmem
        have x2 := PN_lt _ hxP
        have qx := qOf_le hP.ok hmem
        refine ⟨t, _, rfl, st.sqt (hi i t x ht hxp), rfl, _, _, rfl, _, _, rfl, rfl, ?_⟩
        let kept : Nat → List Nat := fun j => (cs.take j).filter fun c => decide (0 < c % x.1)
        refine ⟨_, rfl, fo, rfl, ⟨_, SqL.of ef⟩, fun D nD => lc_list (xs := (intsN cs).map V.int) (Lc H' D fun j => (intsN (kept j)).map V.int) (lc_start nD rfl) (fun _ _ _ h => h.1.seq (SqL.of ef)) (fun j v H2 hv h => ?_) (fun H2 h => ?_)⟩
        · rw [List.getElem?_map, List.getElem?_map] at hv
          obtain ⟨c, hcj, rfl⟩ : ∃ c, cs[j]? = some c ∧ V.int (c : Int) = v := by
            cases e : cs[j]? with
            | none => rw [e] at hv; cases hv
            | some y => rw [e] at hv; exact ⟨y, rfl, Option.some.inj hv⟩
          have hk : kept (j + 1) = if 0 < c % x.1 then kept j ++ [c] else kept j := by
            show (cs.take (j + 1)).filter _ = _
            rw [List.take_add_one, hcj, List.filter_append]
            by_cases q0 : 0 < c % x.1 <;> simp [q0, kept]
          have hkl : (kept j).length ≤ 3 := by
            refine Nat.le_trans (List.length_filter_le _ _) ?_
            rw [List.length_take]
            omega
          refine ⟨rfl, _, rfl, .inl ⟨_, rfl, _, rfl, _, _, rfl, rfl, (show (0 : Int) < (x.1 : Nat) by omega), _, _, rfl, rfl, _, rfl, ite2 (fun z => ?_) (fun z => ?_)⟩⟩
          · have z : (0 : Int) < (c : Int) % (x.1 : Nat) := of_decide_eq_true z
            rw [if_pos (by omega)] at hk
            exact ⟨_, rfl, lc_leaf nD h.1 h.2 (by simp only [List.length_map]; omega) (by rw [hk]; simp [intsN])⟩
          · have z : ¬ (0 : Int) < (c : Int) % (x.1 : Nat) := fun y => z (decide_eq_true y)
            rw [if_neg (by omega)] at hk
            exact lc_skip h.1 h.2 (by rw [hk])
        · have e2 : H2 D = some (.lst ((intsN (kept cs.length)).map V.int)) := by
            have := h.2
            simpa using this
          have ek : kept cs.length = cs.filter fun c => decide (0 < c % x.1) := by simp [kept]
          refine ⟨Nat.zero_le _, fun p np => ?_⟩
          have s2 := h.1
          have sp := same_new np (.lst [])
          have stp := st.same (s2.trans sp)
          have efp := sp _ _ (s2 _ _ ef)
          refine ⟨.list ((intsN (kept cs.length)).map PyData.int), .list [], .lst (SqL.of (sp _ _ e2)) (dp_ints _), .lst (SqL.of upd_same) .nil, shaped_ints _, shaped_ints [], _, rfl, ?_⟩
          rw [eqv_nil]
          refine ite2 (fun c => ?_) (fun c => ?_)
          · have c : intsN (kept cs.length) = [] := of_decide_eq_true c
            have c0 : kept cs.length = [] := by simpa [intsN] using c
            have all : ∀ c ∈ cs, x.1 ∣ c := by
              intro c' hc'
              rw [ek, List.filter_eq_nil_iff] at c0
              have := c0 c' hc'
              simp only [decide_eq_true_eq] at this
              exact Nat.dvd_of_mod_eq_zero (by omega)
            refine ⟨_, rfl, _, rfl, d, l, _, rfl, stp.post, by omega, bdN (n := 3) (by omega) (by omega) (by decide), fun k H3 k0 k1 st3 => ?_⟩
            obtain ⟨k, rfl⟩ : ∃ n : Nat, k = (n : Int) := ⟨k.toNat, by omega⟩
            have hk : k < cs.length := by omega
            have ef3 := st3.lst nfl efp
            have stp3 := stp.trans st3
            have at_k : ((intsN cs).map V.int)[k]? = some (.int (cs[k] : Int)) := by
              rw [List.getElem?_map, List.getElem?_map, List.getElem?_eq_getElem hk]
              rfl
            refine ⟨_, rfl, _, rfl, fo, _, _, _, rfl, rfl, SqL.of ef3, atI_nat at_k, ?_⟩
            refine ⟨_, rfl, _, rfl, _, _, rfl, rfl, Bd.divOk (b := 133) (by omega) (by unfold Bd at *; omega) (by decide) _, _, _, rfl, rfl, .inl ⟨_, rfl, _, rfl, _, _, rfl, rfl, (show (0 : Int) < (mOf pw : Nat) by omega), ?_⟩⟩
            refine ⟨_, rfl, _, rfl, fo, _, _, k, rfl, rfl, ef3, ?_, ?_⟩
            · unfold ixN
              simp only [List.length_map]
              rw [if_pos (by omega), if_pos (by omega)]
              simp
            have ev : (((cs[k] : Nat) : Int) + ((mOf pw : Nat) : Int) / ((qOf x : Nat) : Int)) % ((mOf pw : Nat) : Int) = (((cs[k] + mOf pw / qOf x) % mOf pw : Nat) : Int) := by
              rw [Int.natCast_emod, Int.natCast_add, Int.natCast_ediv]
            obtain ⟨m1, m2⟩ := mend hP.ok hmem all hk
            refine ⟨cs.set k ((cs[k] + mOf pw / qOf x) % mOf pw), _, _, _, _, _, rfl, stp3.upd nfo, ?_, by rw [List.length_set]; exact el, ?_, ?_⟩
            · rw [upd_same, ← set_intsN, ← ev]
            · intro c hcm
              rcases List.mem_or_eq_of_mem_set hcm with z | z
              · exact hc c z
              · rw [z]
                exact Nat.mod_lt _ (by omega)
            · intro j y hj hy
              have hmk : (cs[k] + mOf pw / qOf x) % mOf pw ∈ cs.set k ((cs[k] + mOf pw / qOf x) % mOf pw) := by
                have := List.getElem_mem (l := cs.set k ((cs[k] + mOf pw / qOf x) % mOf pw)) (n := k) (by rw [List.length_set]; exact hk)
                rwa [List.getElem_set_self] at this
              by_cases e : j = i
              · subst e
                rw [hxp] at hy
                cases hy
                exact ⟨_, hmk, m1⟩
              · have hym := List.mem_of_getElem? hy
                obtain ⟨c', hc', nd⟩ := ok j y (by omega) hy
                have ne : y.1 ≠ x.1 := by
                  intro ee
                  have h1 : (pw.map (·.1))[j]? = some y.1 := by rw [List.getElem?_map, hy]; rfl
                  have h2 : (pw.map (·.1))[i]? = some x.1 := by rw [List.getElem?_map, hxp]; rfl
                  exact e (nd_ix hP.ok.nodup h1 (ee ▸ h2))
                obtain ⟨j', hj', ej⟩ := List.mem_iff_getElem.mp hc'
                by_cases ek' : j' = k
                · subst ek'
                  exact ⟨_, hmk, m2 y hym ne (by rw [ej]; exact nd)⟩
                · refine ⟨c', ?_, nd⟩
                  have := List.getElem_mem (l := cs.set k ((cs[k] + mOf pw / qOf x) % mOf pw)) (n := j') (by rw [List.length_set]; exact hj')
                  rw [List.getElem_set_ne (fun z => ek' z.symm)] at this
                  rw [← ej]
                  exact this
          · have c : ¬ intsN (kept cs.length) = [] := fun z => c (decide_eq_true z)
            refine ⟨cs, _, _, _, _, _, rfl, stp, efp, el, hc, fun j y hj hy => ?_⟩
            by_cases e : j = i
            · subst e
              rw [hxp] at hy
              cases hy
              have ne : kept cs.length ≠ [] := fun z => c (by rw [z]; rfl)
              obtain ⟨c', r, ec⟩ := List.exists_cons_of_ne_nil ne
              have : c' ∈ cs.filter fun c => decide (0 < c % x.1) := by rw [← ek, ec]; exact List.mem_cons_self
              obtain ⟨k1, k2⟩ := List.mem_filter.mp this
              refine ⟨c', k1, fun dv => ?_⟩
              have := Nat.mod_eq_zero_of_dvd dv
              simp only [decide_eq_true_eq] at k2
              omega
            · exact ok j y (by omega) hy
      · rintro σ H' ⟨cs, x5, x6, x7, x8, x9, rfl, st, ef, el, hc, ok⟩
        rw [List.length_map, hl] at ok
        refine ⟨cs, x5, x6, x7, x8, x9, rfl, st, ef, el, hc, fun x hx => ?_⟩
        obtain ⟨j, hj, e⟩ := List.mem_iff_getElem.mp hx
        exact ok j x hj (by rw [← e]; exact List.getElem?_eq_getElem hj)
    · rintro σ H' ⟨cs, x5, x6, x7, x8, x9, rfl, st, ef, el, hc, ok⟩
      refine ⟨_, rfl, fo, _, rfl, .inl ⟨SqL.of ef, fun p np => ?_⟩⟩
      exact q p cs _ (st.same (same_new np _)) (SqT.of upd_same) el hc ok
theorem cl__law_numbers {X : Cx} {p pos : Pos} {e : Expr} {es : List Expr} {t : TA} (T : Txt K mg) (hr : Room 3 X.A) (ha : PA X (e :: es) t) (hg : Gl X "_law_numbers" := by rfl)
    (he : starEach (e :: es) X.env = (false, eval e X.env) :: starEach es X.env := by rfl) (hpl : (backTo pos (starEach es X.env)).any (·.1) = false := by rfl) (hK : X.K = K := by rfl) (hmg : X.mg = mg := by rfl) :
    PE X (.Call (.Name "_law_numbers" p) (e :: es) [] pos) (tCall (sp__law_numbers K) [] E0 t) := by
  subst hK hmg
  exact pe_call (ok__law_numbers T) hr hg T.m__law_numbers T.F__law_numbers.kp T.b__law_numbers .nil pass0 ha (by decide) he hpl
end
end KL
namespace KL
open PySem PySem.Spec PyProof.Rows L2 RZ StX SrtO Kw KM
theorem inV_nat (p : Nat) : ∀ l : List Nat, inV (.int (p : Int)) ((intsN l).map V.int) = decide (p ∈ l)
  | [] => rfl
  | c :: r => by
    have ih := inV_nat p r
    unfold inV at *
    simp only [intsN, List.map_cons, List.any_cons] at *
    rw [ih]
    by_cases e : p = c
    · subst e
      simp [eqV]
    · have : ¬ ((c : Int) = (p : Int)) := fun z => e (by omega)
      simp [eqV, e, this]
theorem flat_nat : ∀ l : List Nat, ((intsN l).map V.int).all flatV = true
  | [] => rfl
  | c :: r => by
    have ih := flat_nat r
    simp only [intsN, List.map_cons, List.all_cons] at *
    rw [ih]
    rfl
theorem prodI_perm {a b : List Nat} (h : a.Perm b) : prodI a = prodI b := by
  induction h with
  | nil => rfl
  | cons x _ ih => rw [prodI_cons, prodI_cons, ih]
  | swap x y r => rw [prodI_cons, prodI_cons, prodI_cons, prodI_cons, Nat.mul_left_comm]
  | trans _ _ i1 i2 => exact i1.trans i2
theorem perm_nat {ns : List Int} {F : List Nat} (h : ns.Perm (intsN F)) : ∃ S : List Nat, ns = intsN S ∧ S.Perm F := by
  refine ⟨ns.map Int.toNat, ?_, ?_⟩
  · have : ∀ z ∈ ns, 0 ≤ z := fun z hz => by
      obtain ⟨n, _, e⟩ := List.mem_map.mp (h.mem_iff.mp hz)
      omega
    clear h
    induction ns with
    | nil => rfl
    | cons z r ih =>
      have h0 := this z List.mem_cons_self
      have := ih fun y hy => this y (List.mem_cons_of_mem _ hy)
      simp only [intsN, List.map_cons] at *
      rw [← this]
      congr 1
      omega
  · have := h.map Int.toNat
    have e : (intsN F).map Int.toNat = F := by
      unfold intsN
      rw [List.map_map]
      have : (Int.toNat ∘ fun p : Nat => (p : Int)) = id := by
        funext x
        simp
      rw [this, List.map_id]
    rw [e] at this
    exact this
/-- an ascending list within an ascending one is a part of it -/
theorem sub_of_asc : ∀ {l s : List Nat}, l.Pairwise (· < ·) → s.Pairwise (· < ·) → (∀ x ∈ s, x ∈ l) → s.Sublist l
  | [], s, _, _, h => by
    cases s with
    | nil => exact .slnil
    | cons x r => exact absurd (h x List.mem_cons_self) List.not_mem_nil
  | y :: l, [], _, _, _ => List.nil_sublist _
  | y :: l, x :: r, hl, hs, h => by
    have hl' := List.pairwise_cons.mp hl
    have hs' := List.pairwise_cons.mp hs
    rcases List.mem_cons.mp (h x List.mem_cons_self) with e | hx
    · subst e
      refine List.Sublist.cons_cons _ (sub_of_asc hl'.2 hs'.2 fun z hz => ?_)
      rcases List.mem_cons.mp (h z (List.mem_cons_of_mem _ hz)) with e | k
      · have := hs'.1 z hz
        omega
      · exact k
    · refine List.Sublist.cons _ (sub_of_asc hl'.2 hs fun z hz => ?_)
      rcases List.mem_cons.mp (h z hz) with e | k
      · subst e
        have := hl'.1 x hx
        rcases List.mem_cons.mp hz with e | k
        · omega
        · have := hs'.1 z k
          omega
      · exact k
theorem mOf_append : ∀ (pw : List (Nat × Nat)) (x : Nat × Nat), mOf (pw ++ [x]) = mOf pw * qOf x
  | [], x => by simp [mOf, qOf]
  | y :: r, x => by
    show y.1 ^ y.2 * mOf (r ++ [x]) = y.1 ^ y.2 * mOf r * qOf x
    rw [mOf_append r x, Nat.mul_assoc]
theorem prodP_map : ∀ pw : List (Nat × Nat), prodP pw = prodI (pw.map (·.1))
  | [] => rfl
  | x :: r => by
    show x.1 * prodP r = prodI (x.1 :: r.map (·.1))
    rw [prodI_cons, prodP_map r]
def SOME : List Nat := [2, 2, 3, 3, 5, 7, 11, 13, 17, 19, 23, 29]
theorem SOME_PN : ∀ p ∈ SOME, p ∈ PN := by decide
section
variable {P : Program} {w : World} {K : PySem.W.Frag} {mg : Str → Option Value} {base : Heap}
def sp__law_powers (K : PySem.W.Frag) : Sp := fun vs H Q _ => ∃ (d l : Addr) (top : Int), vs = [.ref d, .int top, .int 1000] ∧ (∃ B : Nat, 1 < B ∧ B ≤ 10 ^ 40 ∧ top = (B : Int)) ∧ DeckAt H d l ∧
  ∀ (p : Addr) (pw : List (Nat × Nat)) (H' : Hp), Stp d l H H' → p ≠ l → PerD pw → PwAt K H' p pw → Q (.ref p) H'
/-- what stands at the addresses of pairs -/
def Tups (K : PySem.W.Frag) (H : Hp) (as : List Addr) (pw : List (Nat × Nat)) : Prop := as.length = pw.length ∧ ∀ (i : Nat) (t : Addr) (x : Nat × Nat), as[i]? = some t → pw[i]? = some x → SqT K H t [.int x.1, .int ((qOf x : Nat) : Int)]
theorem Tups.snoc {H : Hp} {as : List Addr} {pw : List (Nat × Nat)} {t : Addr} {x : Nat × Nat} (h : Tups K H as pw) (ht : SqT K H t [.int x.1, .int ((qOf x : Nat) : Int)]) : Tups K H (as ++ [t]) (pw ++ [x]) := by
  refine ⟨by simp [h.1], fun i u y h1 h2 => ?_⟩
  rcases Nat.lt_or_ge i as.length with c | c
  · rw [List.getElem?_append_left c] at h1
    rw [List.getElem?_append_left (h.1 ▸ c)] at h2
    exact h.2 i u y h1 h2
  · rw [List.getElem?_append_right c] at h1
    rw [List.getElem?_append_right (h.1 ▸ c)] at h2
    have e : i - as.length = 0 := by
      have := (List.getElem?_eq_some_iff.mp h1).1
      simp at this
      omega
    rw [e] at h1
    rw [← h.1, e] at h2
    cases h1
    cases h2
    exact ht
end
end KL
namespace KL
open PySem PySem.Spec PyProof.Rows L2 RZ StX SrtO Kw KM
section
variable {P : Program} {w : World} {K : PySem.W.Frag} {mg : Str → Option Value} {base : Heap}
theorem Tups.stp {d l : Addr} {H H' : Hp} {as : List Addr} {pw : List (Nat × Nat)} (s : Stp d l H H') (h : Tups K H as pw) : Tups K H' as pw := ⟨h.1, fun i t x h1 h2 => s.sqt (h.2 i t x h1 h2)⟩
theorem Tups.same {H H' : Hp} {as : List Addr} {pw : List (Nat × Nat)} (s : Same H H') (h : Tups K H as pw) : Tups K H' as pw := ⟨h.1, fun i t x h1 h2 => s.sqt (h.2 i t x h1 h2)⟩
/-- a list changes: the tuples stay -/
theorem sqt_updL {H : Hp} {a p : Addr} {xs ys zs : List V} (e : H p = some (.lst ys)) (h : SqT K H a xs) : SqT K (upd H p (.lst zs)) a xs := by
  rcases h with (h | ⟨o, h⟩) | h
  · exact .inl (.inl (by rw [upd_ne (ne_of h e (by intro z; cases z))]; exact h))
  · exact .inl (.inr ⟨o, by rw [upd_ne (ne_of h e (by intro z; cases z))]; exact h⟩)
  · exact .inr h
theorem Tups.updL {H : Hp} {p : Addr} {ys zs : List V} {as : List Addr} {pw : List (Nat × Nat)} (e : H p = some (.lst ys)) (h : Tups K H as pw) : Tups K (upd H p (.lst zs)) as pw :=
  ⟨h.1, fun i t x h1 h2 => sqt_updL e (h.2 i t x h1 h2)⟩
theorem ok__law_powers (T : Txt K mg) : FnOk P w K mg base CX0 3 T.a__law_powers T.d__law_powers ["_law_deck_here", "_law_top", "_law_most"] (sp__law_powers K) := by
  refine T.F__law_powers.ok sc__law_powers (fun vs H Q E h => ?_) (fun cdv A outer s H vs Q E hr h => ?_)
  · obtain ⟨d, l, top, rfl, _⟩ := h
    rfl
  obtain ⟨d, l, top, rfl, htop, hD, q⟩ := h
  refine ⟨_, pss_cons (ps_asg (pe_tup (pa_cons (pe_lst (pa_cons pe_int (pa_cons pe_int (pa_cons pe_int (pa_cons pe_int (pa_cons pe_int (pa_cons pe_int (pa_cons pe_int (pa_cons pe_int (pa_cons pe_int (pa_cons pe_int (pa_cons pe_int (pa_cons pe_int pa_nil))))))))))))) (pa_cons pe_int (pa_cons (pv 2) (pa_cons (pe_lst pa_nil) pa_nil))))) (pg_tup (by rfl) (pgs_cons (pg_name (i := 3) sc__law_powers.nd rfl (Or.inl rfl)) (pgs_cons (pg_name (i := 4) sc__law_powers.nd rfl (Or.inl rfl)) (pgs_cons (pg_name (i := 5) sc__law_powers.nd rfl (Or.inl rfl)) (pgs_cons (pg_name (i := 6) sc__law_powers.nd rfl (Or.inl rfl)) pgs_nil))))))
    (pss_cons (ps_set (i := 7) sc__law_powers.nd rfl (Or.inl rfl) (cl__law_draw T (hr.mono (by decide)) (pa_cons (pv 0) (pa_cons pe_int pa_nil))))
    (Evl.pss_cut (ps_for PassesOwn.never rfl (pi_range1 (by rfl) T.n_range (pa_cons (cl__law_pick T (hr.mono (by decide)) (pa_cons (pv 0) (pa_cons (pe_lst (pa_cons pe_int (pa_cons pe_int (pa_cons pe_int (pa_cons pe_int (pa_cons pe_int (pa_cons pe_int (pa_cons pe_int (pa_cons pe_int (pa_cons pe_int pa_nil)))))))))) pa_nil))) pa_nil)) (pg_name (i := 8) sc__law_powers.nd rfl (Or.inl rfl)) (pss_cons (ps_set (i := 9) sc__law_powers.nd rfl (Or.inl rfl) (cl__law_pick T (hr.mono (by decide)) (pa_cons (pv 0) (pa_cons (pv 3) pa_nil))))
        (pss_one (ps_if (PW.pt (pw_and (pt_cmpR op_notIn_seq (pv 9) (pv 6) (by rfl)) (pw_and (pt_cmpR op_le (pv 9) (pv 5) (nomark _)) (pw_and1 (pt_cmpR op_lt (pe_op op_mul (pv 4) (pv 9)) (pv 1) (nomark _)))))) (pss_cons (ps_expr (pe_bm PySem.F.plainAttrs_list PySem.F.slot_list_append PySem.F.type_list_append mt_append (pv 6) (pa_cons (pv 9) pa_nil)))
            (pss_one (ps_par (i := 4) (j := 5) (by rfl) sc__law_powers.nd rfl rfl (by decide) rfl rfl (pa_cons (pe_op op_mul (pv 4) (pv 9)) (pa_cons (pe_op op_fdivW (pv 5) (pv 9)) pa_nil)) (by rfl)))) pss_nil))))
    (pss_cons (ps_set (i := 10) sc__law_powers.nd rfl (Or.inl rfl) (pe_lst pa_nil))
    (pss_cons (ps_for PassesOwn.never rfl (pi_list (pe_callB cr_sortedI (by rfl) T.n_sorted (by decide +kernel) (pa_cons (pv 6) pa_nil))) (pg_name (i := 9) sc__law_powers.nd rfl (Or.inl rfl)) (pss_cons (ps_set (i := 11) sc__law_powers.nd rfl (Or.inl rfl) (pv 9))
        (Evl.pss_cut (ps_for PassesOwn.never rfl (pi_range1 (by rfl) T.n_range (pa_cons (cl__law_draw T (hr.mono (by decide)) (pa_cons (pv 0) (pa_cons (pe_ix ix_list (pe_lst (pa_cons pe_int (pa_cons pe_int (pa_cons pe_int (pa_cons pe_int pa_nil))))) (pv 7) (fun _ _ => rfl)) pa_nil))) pa_nil)) (pg_name (i := 8) sc__law_powers.nd rfl (Or.inl rfl)) (pss_one (ps_if (pt_cmpR op_lt (pe_op op_mul (pv 4) (pv 9)) (pv 1) (nomark _)) (pss_one (ps_par (i := 11) (j := 4) (by rfl) sc__law_powers.nd rfl rfl (by decide) rfl rfl (pa_cons (pe_op op_mul (pv 11) (pv 9)) (pa_cons (pe_op op_mul (pv 4) (pv 9)) pa_nil)) (by rfl))) pss_nil)))
        (pss_one (ps_expr (pe_bm PySem.F.plainAttrs_list PySem.F.slot_list_append PySem.F.type_list_append mt_append (pv 10) (pa_cons (pe_tup (pa_cons (pv 9) (pa_cons (pv 11) pa_nil))) pa_nil)))))))
    (pss_one (ps_ret (pv 10))))))), ?_⟩
  have small : ∀ n : Nat, n < 1000 → Bd 2000 (n : Int) := fun n h => bdN (n := n) (by omega) (by omega) (Nat.lt_of_lt_of_le h (by decide))
  obtain ⟨B, B1, hB, rfl⟩ := htop
  -- the four names
  refine ⟨(by show 12 ≤ sizeLine; decide), fun so nso => ?_⟩
  refine ⟨_, rfl, Nat.zero_le _, fun fo nfo => ⟨(by show 4 ≤ sizeLine; decide), fun tp ntp => ?_⟩⟩
  refine ⟨tp, _, rfl, SqT.of upd_same, rfl, _, _, rfl, _, _, rfl, _, _, rfl, _, _, rfl, rfl, ?_⟩
  have sA := same_new nso (.lst ((intsN SOME).map V.int))
  have sB := same_new nfo (.lst [])
  have sC := same_new ntp (.tup [V.ref so, V.int 1, V.int 1000, V.ref fo])
  have eso := sC _ _ (sB _ _ (upd_same (H := H) (a := so) (o := .lst ((intsN SOME).map V.int))))
  have efo := sC _ _ (upd_same (H := upd H so (.lst ((intsN SOME).map V.int))) (a := fo) (o := .lst []))
  have sABC := (sA.trans sB).trans sC
  have nfo0 : H fo = none := sA.free nfo
  have nsf : so ≠ fo := ne_of_none (upd_same (H := H) (a := so) (o := .lst ((intsN SOME).map V.int))) nfo
  have st0 := hD.stp sABC
  have nsl := hD.off nso
  have nfl := hD.off nfo0
  generalize upd (upd (upd H so (.lst ((intsN SOME).map V.int))) fo (.lst [])) tp (.tup [V.ref so, V.int 1, V.int 1000, V.ref fo]) = H0 at sC eso efo sABC st0
  refine ⟨_, rfl, d, l, 4, rfl, st0.post, by decide, small 4 (by decide), fun way H1 w0 w1 st1 => ?_⟩
  have st01 := st0.trans st1
  have eso1 := st1.lst nsl eso
  have efo1 := st1.lst nfl efo
  -- the primes are drawn
  refine ⟨fun σ H' => ∃ (F : List Nat) (rest : Nat) (x8 x9 : Option V), σ = [some (.ref d), some (.int (B : Int)), some (.int 1000), some (.ref so), some (.int ((prodI F : Nat) : Int)), some (.int (rest : Int)), some (.ref fo), some (.int way), x8, x9, none, none] ∧ Stp d l H H' ∧ H' so = some (.lst ((intsN SOME).map V.int)) ∧ H' fo = some (.lst ((intsN F).map V.int)) ∧ F.Nodup ∧ (∀ p ∈ F, p ∈ PN) ∧ prodI F ≤ 1000 ∧ prodI F < B, ?_, ?_⟩
  · refine ⟨_, rfl, (by show 9 ≤ sizeLine; decide), fun z nz => ?_⟩
    have sz := same_new nz (.lst [V.int 0, V.int 1, V.int 1, V.int 2, V.int 2, V.int 3, V.int 4, V.int 6, V.int 6])
    refine ⟨d, l, z, _, rfl, st1.post.same sz, SqL.of upd_same, st1.post.off nz, by show 1 ≤ 9; decide, by show 9 ≤ 1000; decide, fun v H2 hv st2 => ?_⟩
    have st02 := (st01.same sz).trans st2
    obtain ⟨n, rfl, hn⟩ : ∃ n : Nat, v = .int (n : Int) ∧ n ≤ 6 := by
      simp only [List.mem_cons, List.not_mem_nil, or_false] at hv
      rcases hv with rfl | rfl | rfl | rfl | rfl | rfl | rfl | rfl | rfl
      · exact ⟨0, rfl, by decide⟩
      · exact ⟨1, rfl, by decide⟩
      · exact ⟨1, rfl, by decide⟩
      · exact ⟨2, rfl, by decide⟩
      · exact ⟨2, rfl, by decide⟩
      · exact ⟨3, rfl, by decide⟩
      · exact ⟨4, rfl, by decide⟩
      · exact ⟨6, rfl, by decide⟩
      · exact ⟨6, rfl, by decide⟩
    refine ⟨n, rfl, by omega, by omega, for_range (lo := 0) (n := ((n : Nat) : Int).toNat) (fun i σ H' => ∃ (F : List Nat) (rest : Nat) (x8 x9 : Option V), σ = [some (.ref d), some (.int (B : Int)), some (.int 1000), some (.ref so), some (.int ((prodI F : Nat) : Int)), some (.int (rest : Int)), some (.ref fo), some (.int way), x8, x9, none, none] ∧ Stp d l H H' ∧ H' so = some (.lst ((intsN SOME).map V.int)) ∧ H' fo = some (.lst ((intsN F).map V.int)) ∧ F.Nodup ∧ (∀ p ∈ F, p ∈ PN) ∧ 1 ≤ rest ∧ prodI F * rest ≤ 1000 ∧ prodI F < B ∧ F.length ≤ i) ⟨[], 1000, none, none, rfl, st02, st2.lst nsl (sz _ _ eso1), st2.lst nfl (sz _ _ efo1), List.nodup_nil, (fun _ h => absurd h List.not_mem_nil), by decide, by decide, B1, Nat.le_refl _⟩ ?_ ?_⟩
    · rintro i σ H' hi ⟨F, rest, x8, x9, rfl, st, es, ef, nd, hPN, r1, r2, r3, r4⟩
      refine ⟨_, rfl, _, rfl, d, l, so, _, rfl, st.post, SqL.of es, nsl, by show 1 ≤ 12; decide, by show 12 ≤ 1000; decide, fun v H3 hv st3 => ?_⟩
      obtain ⟨p, hp, rfl⟩ : ∃ p : Nat, p ∈ SOME ∧ v = .int (p : Int) := by
        obtain ⟨z, hz, rfl⟩ := List.mem_map.mp hv
        obtain ⟨p, hp, rfl⟩ := List.mem_map.mp hz
        exact ⟨p, hp, rfl⟩
      have pPN := SOME_PN p hp
      have p2 := PN_lt p pPN
      have es3 := st3.lst nsl es
      have ef3 := st3.lst nfl ef
      have stt := st.trans st3
      have stay : ∃ (F : List Nat) (rest' : Nat) (x8' x9' : Option V), [some (.ref d), some (.int (B : Int)), some (.int 1000), some (.ref so), some (.int ((prodI F : Nat) : Int)), some (.int (rest' : Int)), some (.ref fo), some (.int way), x8', x9', none, none] = [some (.ref d), some (.int (B : Int)), some (.int 1000), some (.ref so), some (.int ((prodI F : Nat) : Int)), some (.int (rest : Int)), some (.ref fo), some (.int way), some (.int (0 + (i : Int))), some (.int (p : Int)), none, none] := ⟨F, rest, _, _, rfl⟩
      refine ⟨_, rfl, _, rfl, fo, _, rfl, .inl (SqL.of ef3), rfl, flat_nat F, _, rfl, ?_⟩
      rw [inV_nat]
      refine ite2 (fun c => ?_) (fun c => ?_)
      · have hpF : p ∉ F := by
          intro z
          rw [decide_eq_true z] at c
          cases c
        refine ⟨_, rfl, _, rfl, _, _, rfl, rfl, _, rfl, ite2 (fun c2 => ?_) (fun c2 => ?_)⟩
        · have c2 : (p : Int) ≤ rest := of_decide_eq_true c2
          refine ⟨_, rfl, _, rfl, _, _, rfl, rfl, .inr ⟨by omega, by omega⟩, _, rfl, _, _, rfl, rfl, _, rfl, ite2 (fun c3 => ?_) (fun c3 => ?_)⟩
          · have c3 : ((prodI F : Nat) : Int) * (p : Int) < (B : Int) := of_decide_eq_true c3
            refine ⟨_, rfl, .inl ⟨rfl, _, SqL.of ef3⟩, _, rfl, fo, _, _, rfl, rfl, ef3, ?_, ?_⟩
            · simp only [List.length_map]
              exact Nat.lt_of_lt_of_le (show F.length < 10 by omega) (by decide)
            refine ⟨_, rfl, _, rfl, _, _, rfl, rfl, .inr ⟨by omega, by omega⟩, _, rfl, _, rfl, _, _, rfl, rfl, Bd.divOk (b := 5) (by omega) (by unfold Bd; omega) (by decide) _, _, _, rfl, ?_⟩
            have e1 : prodI (F ++ [p]) = prodI F * p := prodI_snoc F p
            refine ⟨F ++ [p], rest / p, some (.int (0 + (i : Int))), some (.int (p : Int)), ?_, stt.upd nfo0, ?_, ?_, ?_, ?_, ?_, ?_, ?_, ?_⟩
            · rw [e1, Int.natCast_mul, Int.natCast_ediv]
              rfl
            · rw [upd_ne nsf]
              exact es3
            · rw [upd_same]
              simp [intsN]
            · exact List.nodup_append.mpr ⟨nd, by simp, fun a ha b hb => by
                rw [List.mem_singleton.mp hb]
                exact fun z => hpF (z ▸ ha)⟩
            · intro y hy
              rcases List.mem_append.mp hy with k | k
              · exact hPN y k
              · rw [List.mem_singleton.mp k]
                exact pPN
            · exact (Nat.le_div_iff_mul_le (by omega)).mpr (by omega)
            · rw [e1, Nat.mul_assoc]
              exact Nat.le_trans (Nat.mul_le_mul_left _ (Nat.mul_div_le rest p)) r2
            · rw [e1]
              rw [← Int.natCast_mul] at c3
              omega
            · simp
              omega
          · exact ⟨F, rest, _, _, rfl, stt, es3, ef3, nd, hPN, r1, r2, r3, by omega⟩
        · exact ⟨F, rest, _, _, rfl, stt, es3, ef3, nd, hPN, r1, r2, r3, by omega⟩
      · exact ⟨F, rest, _, _, rfl, stt, es3, ef3, nd, hPN, r1, r2, r3, by omega⟩
    · rintro σ H' ⟨F, rest, x8, x9, rfl, st, es, ef, nd, hPN, r1, r2, r3, r4⟩
      exact ⟨F, rest, x8, x9, rfl, st, es, ef, nd, hPN, Nat.le_trans (Nat.le_mul_of_pos_right _ r1) r2, r3⟩
  · rintro σ H2 ⟨F, rest, x8, x9, rfl, st2, es, ef, nd, hPN, r2, r3⟩
    refine ⟨Nat.zero_le _, fun pa npa => ?_⟩
    have spa := same_new npa (.lst [])
    have npa0 := st2.free npa
    have npl := st2.post.off npa
    have st3 := st2.same spa
    have ef3 := spa _ _ ef
    refine ⟨_, rfl, fo, _, rfl, SqL.of ef3, fun ns sl hperm hpw nsl2 => ?_⟩
    obtain ⟨S, rfl, hS⟩ := perm_nat hperm
    have ssl := same_new nsl2 (.lst ((intsN S).map V.int))
    have st4 := st3.same ssl
    have nslpa : sl ≠ pa := (ne_of_none (upd_same (H := H2) (a := pa) (o := .lst [])) nsl2).symm
    have esl : (upd (upd H2 pa (.lst [])) sl (.lst ((intsN S).map V.int))) sl = some (.lst ((intsN S).map V.int)) := upd_same
    have epa : (upd (upd H2 pa (.lst [])) sl (.lst ((intsN S).map V.int))) pa = some (.lst []) := ssl _ _ upd_same
    have nsll := st3.post.off nsl2
    have hasc : S.Pairwise (· < ·) := by
      have h1 : S.Pairwise (· ≤ ·) := by
        have := List.pairwise_map.mp hpw
        exact this.imp fun {a b} h => by omega
      have h2 : S.Nodup := hS.nodup_iff.mpr nd
      exact (List.pairwise_and_iff.mpr ⟨h1, h2⟩).imp fun {a b} h => by have := h.1; have := h.2; omega
    have hSPN : ∀ p ∈ S, p ∈ PN := fun p hp => hPN p (hS.mem_iff.mp hp)
    have hsub : S.Sublist PN := sub_of_asc (by decide) hasc hSPN
    have hSp : prodI S = prodI F := prodI_perm hS
    generalize hH4 : upd (upd H2 pa (.lst [])) sl (.lst ((intsN S).map V.int)) = H4 at st4 esl epa
    refine ⟨sl, rfl, ⟨_, SqL.of esl⟩, for_list (xs := (intsN S).map V.int) (fun i σ H' => ∃ (pw : List (Nat × Nat)) (as : List Addr) (x8 x9 x11 : Option V), σ = [some (.ref d), some (.int (B : Int)), some (.int 1000), some (.ref so), some (.int ((mOf pw * prodI (S.drop i) : Nat) : Int)), some (.int (rest : Int)), some (.ref fo), some (.int way), x8, x9, some (.ref pa), x11] ∧ Stp d l H H' ∧ H' sl = some (.lst ((intsN S).map V.int)) ∧ H' pa = some (.lst (as.map V.ref)) ∧ Tups K H' as pw ∧ pw.map (·.1) = S.take i ∧ (∀ x ∈ pw, 1 ≤ x.2) ∧ mOf pw * prodI (S.drop i) < B) ⟨[], [], x8, x9, none, ?_, st4, esl, epa, ⟨rfl, fun i t x h => by cases h⟩, rfl, (fun _ h => absurd h List.not_mem_nil), ?_⟩ ?_ ?_ ?_⟩
    · rw [show mOf [] * prodI (S.drop 0) = prodI F by rw [List.drop_zero, hSp]; exact Nat.one_mul _]
      rfl
    · rw [show mOf [] * prodI (S.drop 0) = prodI F by rw [List.drop_zero, hSp]; exact Nat.one_mul _]
      exact r3
    · rintro i σ H' _ ⟨pw, as, x8, x9, x11, rfl, st, e1, _⟩
      exact SqL.of e1
    · rintro i v σ H' hv ⟨pw, as, x8, x9, x11, rfl, st, e1, e2, tu, hmap, hpos, hlt⟩
      rw [List.getElem?_map, List.getElem?_map] at hv
      obtain ⟨p, hp, rfl⟩ : ∃ p, S[i]? = some p ∧ V.int (p : Int) = v := by
        cases e : S[i]? with
        | none => rw [e] at hv; cases hv
        | some y => rw [e] at hv; exact ⟨y, rfl, Option.some.inj hv⟩
      have pPN := hSPN p (List.mem_of_getElem? hp)
      have p2 := PN_lt p pPN
      have hdrop : S.drop i = p :: S.drop (i + 1) := by
        obtain ⟨hi, rfl⟩ := List.getElem?_eq_some_iff.mp hp
        exact List.drop_eq_getElem_cons hi
      have hprod : mOf pw * prodI (S.drop i) = mOf pw * p ^ 1 * prodI (S.drop (i + 1)) := by
        rw [hdrop, prodI_cons, Nat.pow_one, Nat.mul_assoc]
      refine ⟨_, rfl, ?_⟩
      refine ⟨fun σ H3 => ∃ (k : Nat) (x8 : Option V), 1 ≤ k ∧ σ = [some (.ref d), some (.int (B : Int)), some (.int 1000), some (.ref so), some (.int ((mOf pw * p ^ k * prodI (S.drop (i + 1)) : Nat) : Int)), some (.int (rest : Int)), some (.ref fo), some (.int way), x8, some (.int (p : Int)), some (.ref pa), some (.int ((p ^ k : Nat) : Int))] ∧ Stp d l H H3 ∧ H3 sl = some (.lst ((intsN S).map V.int)) ∧ H3 pa = some (.lst (as.map V.ref)) ∧ Tups K H3 as pw ∧ mOf pw * p ^ k * prodI (S.drop (i + 1)) < B, ?_, ?_⟩
      · refine ⟨_, rfl, (by show 4 ≤ sizeLine; decide), fun z nz => ?_⟩
        have sz := same_new nz (.lst [V.int 1, V.int 3, V.int 14, V.int 140])
        obtain ⟨n, hn, n1, n2⟩ : ∃ n : Nat, atI [V.int 1, V.int 3, V.int 14, V.int 140] way = some (.int (n : Int)) ∧ 1 ≤ n ∧ n ≤ 140 := by
          rcases (show way = 0 ∨ way = 1 ∨ way = 2 ∨ way = 3 by omega) with rfl | rfl | rfl | rfl
          · exact ⟨1, rfl, by decide, by decide⟩
          · exact ⟨3, rfl, by decide, by decide⟩
          · exact ⟨14, rfl, by decide, by decide⟩
          · exact ⟨140, rfl, by decide, by decide⟩
        refine ⟨_, rfl, z, _, _, _, rfl, rfl, SqL.of upd_same, hn, d, l, _, rfl, (st.post.same sz), by omega, small n (by omega), fun v H3 v0 v1 st3 => ?_⟩
        have stt := (st.same sz).trans st3
        refine ⟨v, rfl, by omega, by omega, for_range (lo := 0) (n := v.toNat) (fun j σ H3 => ∃ (k : Nat) (x8 : Option V), 1 ≤ k ∧ σ = [some (.ref d), some (.int (B : Int)), some (.int 1000), some (.ref so), some (.int ((mOf pw * p ^ k * prodI (S.drop (i + 1)) : Nat) : Int)), some (.int (rest : Int)), some (.ref fo), some (.int way), x8, some (.int (p : Int)), some (.ref pa), some (.int ((p ^ k : Nat) : Int))] ∧ Stp d l H H3 ∧ H3 sl = some (.lst ((intsN S).map V.int)) ∧ H3 pa = some (.lst (as.map V.ref)) ∧ Tups K H3 as pw ∧ mOf pw * p ^ k * prodI (S.drop (i + 1)) < B) ⟨1, x8, Nat.le_refl _, ?_, stt, st3.lst nsll (sz _ _ e1), st3.lst npl (sz _ _ e2), (tu.same sz).stp st3, by rw [← hprod]; exact hlt⟩ ?_ ?_⟩
        · rw [← hprod, Nat.pow_one]
          rfl
        · rintro j σ H5 _ ⟨k, x8, k1, rfl, st5, f1, f2, tu5, lt5⟩
          refine ⟨_, rfl, _, rfl, _, _, rfl, rfl, .inr ⟨by omega, by omega⟩, _, rfl, _, _, rfl, rfl, _, rfl, ite2 (fun c => ?_) (fun c => ?_)⟩
          · have c : ((mOf pw * p ^ k * prodI (S.drop (i + 1)) : Nat) : Int) * (p : Int) < (B : Int) := of_decide_eq_true c
            have e3 : mOf pw * p ^ (k + 1) * prodI (S.drop (i + 1)) = mOf pw * p ^ k * prodI (S.drop (i + 1)) * p := by
              rw [Nat.pow_succ]
              simp only [Nat.mul_assoc, Nat.mul_comm, Nat.mul_left_comm]
            refine ⟨_, rfl, _, rfl, _, _, rfl, rfl, .inr ⟨by omega, by omega⟩, _, rfl, _, rfl, _, _, rfl, rfl, .inr ⟨by omega, by omega⟩, _, _, rfl, ?_⟩
            refine ⟨k + 1, some (.int (0 + (j : Int))), by omega, ?_, st5, f1, f2, tu5, ?_⟩
            · rw [e3, Nat.pow_succ, Int.natCast_mul (_ * _ * _) p, Int.natCast_mul (p ^ k) p]
              rfl
            · rw [e3]
              rw [← Int.natCast_mul] at c
              omega
          · exact ⟨k, _, k1, rfl, st5, f1, f2, tu5, lt5⟩
        · rintro σ H5 ⟨k, x8, k1, rfl, st5, f1, f2, tu5, lt5⟩
          exact ⟨k, x8, k1, rfl, st5, f1, f2, tu5, lt5⟩
      · rintro σ H5 ⟨k, x8, k1, rfl, st5, f1, f2, tu5, lt5⟩
        refine ⟨_, rfl, .inl ⟨rfl, _, SqL.of f2⟩, _, rfl, _, rfl, (by show 2 ≤ sizeLine; decide), fun tq ntq => ?_⟩
        have stq := same_new ntq (.tup [V.int (p : Int), V.int ((p ^ k : Nat) : Int)])
        have g2 := stq _ _ f2
        have g1 := stq _ _ f1
        have al : as.length = i := by
          have := congrArg List.length hmap
          simp only [List.length_map, List.length_take] at this
          have hi := (List.getElem?_eq_some_iff.mp hp).1
          rw [tu5.1]
          omega
        have hi10 : i < 10 := by
          have hi := (List.getElem?_eq_some_iff.mp hp).1
          have := hsub.length_le
          have : S.length ≤ 10 := this
          omega
        refine ⟨pa, _, _, rfl, rfl, g2, ?_, ?_⟩
        · rw [List.length_map, al]
          exact Nat.lt_of_lt_of_le hi10 (by decide)
        refine ⟨pw ++ [(p, k)], as ++ [tq], x8, some (.int (p : Int)), some (.int ((p ^ k : Nat) : Int)), ?_, (st5.same stq).upd npa0, ?_, ?_, ?_, ?_, ?_, ?_⟩
        · rw [mOf_append]
        · rw [upd_ne nslpa]
          exact g1
        · rw [upd_same, List.map_append]
          rfl
        · exact ((tu5.same stq).snoc (x := (p, k)) (SqT.of upd_same)).updL g2
        · rw [List.map_append, hmap, List.take_add_one, hp]
          rfl
        · intro x hx
          rcases List.mem_append.mp hx with z | z
          · exact hpos x z
          · rw [List.mem_singleton.mp z]
            exact k1
        · rw [mOf_append]
          exact lt5
    · rintro σ H' ⟨pw, as, x8, x9, x11, rfl, st, e1, e2, tu, hmap, hpos, hlt⟩
      have eL : ((intsN S).map V.int).length = S.length := by simp
      rw [eL] at hmap hlt
      rw [List.take_length] at hmap
      rw [List.drop_length] at hlt
      have hPw : Pw pw := ⟨by rw [hmap]; exact hsub, hpos⟩
      refine ⟨_, rfl, q pa pw H' st npl ⟨hPw, ?_, ?_⟩ ⟨as, SqL.of e2, tu.1, tu.2⟩⟩
      · rw [prodP_map, hmap, hSp]
        exact r2
      · refine Nat.lt_of_lt_of_le ?_ hB
        have : prodI [] = 1 := rfl
        rw [this, Nat.mul_one] at hlt
        exact hlt
theorem cl__law_powers {X : Cx} {p pos : Pos} {e : Expr} {es : List Expr} {t : TA} (T : Txt K mg) (hr : Room 3 X.A) (ha : PA X (e :: es) t) (hg : Gl X "_law_powers" := by rfl)
    (he : starEach (e :: es) X.env = (false, eval e X.env) :: starEach es X.env := by rfl) (hpl : (backTo pos (starEach es X.env)).any (·.1) = false := by rfl) (hK : X.K = K := by rfl) (hmg : X.mg = mg := by rfl) :
    PE X (.Call (.Name "_law_powers" p) (e :: es) [] pos) (tCall (sp__law_powers K) [] E0 t) := by
  subst hK hmg
  exact pe_call (ok__law_powers T) hr hg T.m__law_powers T.F__law_powers.kp T.b__law_powers .nil pass0 ha (by decide) he hpl
end
end KL
namespace KL
open PySem PySem.Spec PyProof.Rows L2 RZ StX SrtO Kw KM
theorem dot_unit (u m : Int) : ∀ (cs xs : List Int), (dotI (cs.map fun c => (u * c) % m) xs) % m = (u * dotI cs xs) % m
  | [], xs => by
    show (0 : Int) % m = (u * dotI [] xs) % m
    rw [show dotI [] xs = 0 from rfl, Int.mul_zero]
  | c :: cs, [] => by
    show (0 : Int) % m = (u * dotI (c :: cs) []) % m
    rw [show dotI (c :: cs) [] = 0 from rfl, Int.mul_zero]
  | c :: cs, x :: xs => by
    have ih := dot_unit u m cs xs
    rw [List.map_cons, dot_cons, dot_cons, Int.mul_add, Int.add_emod, ih, ← Int.mul_assoc]
    rw [Int.mul_emod, Int.emod_emod, ← Int.mul_emod, ← Int.add_emod]
theorem dvd_unit {u m a b : Int} (h : a % m = (u * b) % m) (hb : m ∣ b) : m ∣ a := by
  have : (u * b) % m = 0 := Int.emod_eq_zero_of_dvd (Int.dvd_trans hb (Int.dvd_mul_left _ _))
  rw [this] at h
  exact Int.dvd_of_emod_eq_zero h
theorem natAbs_unit {u : Nat} {p : Nat} {c : Int} (hp : p ∈ PN) (hu : ¬ p ∣ u) (hc : ¬ (p : Int) ∣ c) : ¬ (p : Int) ∣ (u : Int) * c := by
  intro h
  have h := Int.ofNat_dvd_left.mp h
  rw [Int.natAbs_mul, Int.natAbs_natCast] at h
  rcases dvd_mul_of hp h with k | k
  · exact hu k
  · exact hc (Int.ofNat_dvd_left.mpr k)
/-- numbers below the period, no prime in all of them: a stripe with any r -/
theorem SOk.mk' {pw : List (Nat × Nat)} (hP : PerD pw) {cs : List Int} {r : Int} (l1 : 1 ≤ cs.length) (l3 : cs.length ≤ 3) (c0 : ∀ c ∈ cs, 0 ≤ c ∧ c < (mOf pw : Nat))
    (ok : ∀ x ∈ pw, ∃ c ∈ cs, ¬ (x.1 : Int) ∣ c) (r0 : 0 ≤ r ∧ r < (mOf pw : Nat)) : SOk pw cs r := ⟨hP.per, l1, l3, c0, r0, gcdL_one hP.ok ok⟩
theorem SOk.other {pw : List (Nat × Nat)} (hP : PerD pw) {cs : List Int} {r : Int} (h : SOk pw cs r) {u : Nat} (hu : ∀ x ∈ pw, ¬ x.1 ∣ u) :
    SOk pw (cs.map fun c => ((u : Int) * c) % ((mOf pw : Nat) : Int)) (((u : Int) * r) % ((mOf pw : Nat) : Int)) := by
  have hm := mOf_pos hP.ok
  have m0 : (0 : Int) < ((mOf pw : Nat) : Int) := by omega
  refine SOk.mk' hP (by simpa using h.l1) (by simpa using h.l3) ?_ ?_ (emodB _ m0)
  · intro c hc
    obtain ⟨c0, _, rfl⟩ := List.mem_map.mp hc
    exact emodB _ m0
  · intro x hx
    obtain ⟨c, hc, nd⟩ := h.free hx
    have hp := hP.ok.mem hx
    refine ⟨_, List.mem_map_of_mem hc, fun z => natAbs_unit hp (hu x hx) nd ?_⟩
    have pm : (x.1 : Int) ∣ ((mOf pw : Nat) : Int) := Int.natCast_dvd_natCast.mpr ((dvd_mOf hp hP.ok).mpr (List.mem_map_of_mem hx))
    have e := Int.emod_add_mul_ediv ((u : Int) * c) ((mOf pw : Nat) : Int)
    rw [← e]
    exact Int.dvd_add z (Int.dvd_trans pm (Int.dvd_mul_right _ _))
theorem on_other {m : Int} {u : Int} {cs xs : List Int} {r : Int} (h : (dotI cs xs - r) % m = 0) : (dotI (cs.map fun c => (u * c) % m) xs - (u * r) % m) % m = 0 := by
  rw [Int.sub_emod, dot_unit, Int.emod_emod, ← Int.sub_emod, ← Int.mul_sub]
  have d := Int.dvd_of_emod_eq_zero h
  exact Int.emod_eq_zero_of_dvd (Int.dvd_trans d (Int.dvd_mul_left _ _))
theorem on_self {m z : Int} : (z - z % m) % m = 0 := by
  rw [Int.sub_emod, Int.emod_emod, Int.sub_self]
  rfl
theorem shift_due {m z k : Int} : (z - (z % m + k) % m) % m = 0 ↔ k % m = 0 := by
  have e : (z - (z % m + k) % m) % m = (-k) % m := by
    rw [Int.sub_emod, Int.emod_emod, ← Int.sub_emod]
    have : z - (z % m + k) = (z - z % m) + -k := by omega
    rw [this, Int.add_emod, on_self, Int.zero_add, Int.emod_emod]
  rw [e]
  constructor
  · intro h
    have := Int.dvd_of_emod_eq_zero h
    exact Int.emod_eq_zero_of_dvd (Int.dvd_neg.mp this)
  · intro h
    exact Int.emod_eq_zero_of_dvd (Int.dvd_neg.mpr (Int.dvd_of_emod_eq_zero h))
theorem prodI_mOf : ∀ pw : List (Nat × Nat), prodI (pw.map qOf) = mOf pw
  | [] => rfl
  | x :: r => by
    rw [List.map_cons, prodI_cons, prodI_mOf r]
    rfl
end KL
namespace KL
open PySem PySem.Spec PyProof.Rows L2 RZ StX SrtO Kw KM
theorem cat_any {K : PySem.W.Frag} {H : Hp} {Q : VK} {a b : Addr} {xs ys : List V} (ha : SqT K H a xs) (hb : SqT K H b ys) (hl : xs.length + ys.length ≤ sizeLine)
    (q : ∀ (p : Addr) (H' : Hp), Same H H' → SqT K H' p (xs ++ ys) → Q (.ref p) H') : rCatA K (.ref a) (.ref b) H Q := by
  refine ⟨a, b, xs, ys, rfl, rfl, ha, hb, hl, fun e => ?_, fun _ e => ?_, fun _ _ p np => ?_⟩
  · subst e
    exact q b H (Same.refl H) hb
  · subst e
    exact q a H (Same.refl H) (by rw [List.append_nil]; exact ha)
  · exact q p _ (same_new np _) (SqT.of upd_same)
theorem cross_of {m : Nat} {a b : List Int} (h : ∀ (i j : Nat) (x y z w : Int), j < i → a[i]? = some x → a[j]? = some y → b[i]? = some z → b[j]? = some w → (m : Int) ∣ x * w - y * z) : Cross m a b := by
  intro i j x y z w hx hy hz hw
  rcases Nat.lt_trichotomy i j with c | c | c
  · have := h j i y x w z c hy hx hw hz
    rw [show x * w - y * z = -(y * z - x * w) by omega]
    exact Int.dvd_neg.mpr this
  · subst c
    rw [hx] at hy
    rw [hz] at hw
    cases hy
    cases hw
    rw [Int.sub_self]
    exact Int.dvd_zero _
  · exact h i j x y z w c hx hy hz hw
theorem some_lt {α : Type} {xs : List α} {i : Nat} (h : i < xs.length) : ∃ x, xs[i]? = some x := ⟨_, List.getElem?_eq_getElem h⟩
theorem ints_at {xs : List Int} {i : Nat} {x : Int} (h : xs[i]? = some x) : (xs.map V.int)[i]? = some (.int x) := by
  rw [List.getElem?_map, h]
  rfl
theorem eqv_lst_nil (cs : List Int) : PyData.eqv (.list (cs.map PyData.int)) (.list []) = decide (cs = []) := by
  cases cs <;> rfl
theorem shaped_lst {cs : List Int} : SeqAt.shaped (.list (cs.map PyData.int)) = true := by
  have h : ∀ cs : List Int, PyData.canLayAll0 (cs.map PyData.int) = true ∧ PyData.depthAll (cs.map PyData.int) = 0 := by
    intro cs
    induction cs with
    | nil => simp [PyData.canLayAll0, PyData.depthAll]
    | cons c r ih => simp [PyData.canLayAll0, PyData.depthAll, PyData.canLay0, PyData.depth, ih.1, ih.2]
  obtain ⟨h1, h2⟩ := h cs
  simp [SeqAt.shaped, PyData.canLay0, h1, PyData.depth, h2]
section
variable {P : Program} {w : World} {K : PySem.W.Frag} {mg : Str → Option Value} {base : Heap}
/-! ### products across -/
def sp__law_are_multiples (K : PySem.W.Frag) : Sp := fun vs H Q _ => ∃ (a b : Addr) (m : Nat) (xs ys : List Int), vs = [.int (m : Int), .ref a, .ref b] ∧ 1 ≤ m ∧ SqT K H a (xs.map V.int) ∧ SqT K H b (ys.map V.int) ∧ xs.length = ys.length ∧ xs.length ≤ 4 ∧
  (∀ x ∈ xs, Bd 2000 x) ∧ (∀ y ∈ ys, Bd 2000 y) ∧ ∀ (v : Bool) (H' : Hp), Same H H' → (v = true ↔ Cross m xs ys) → Q (.bl v) H'
/-! ### a stripe's row -/
def sp__law_row (K : PySem.W.Frag) : Sp := fun vs H Q _ => ∃ (a : Addr) (m : Nat) (cs : List Int) (r : Int), vs = [.ref a] ∧ SAt K H a m cs r ∧ cs.length ≤ 3 ∧ ∀ (p : Addr) (H' : Hp), Same H H' → SqT K H' p ((cs ++ [r]).map V.int) → Q (.ref p) H'
end
end KL
namespace KL
open PySem PySem.Spec PyProof.Rows L2 RZ StX SrtO Kw KM
section
variable {P : Program} {w : World} {K : PySem.W.Frag} {mg : Str → Option Value} {base : Heap}
/-! ### a normal stripe -/
def sp__law_is_normal (K : PySem.W.Frag) : Sp := fun vs H Q _ => ∃ (pa a : Addr) (pw : List (Nat × Nat)) (cs : List Int) (r : Int), vs = [.ref pa, .int ((mOf pw : Nat) : Int), .ref a] ∧ Pw pw ∧ PwAt K H pa pw ∧ SAt K H a (mOf pw) cs r ∧ cs.length ≤ 3 ∧
  (∀ c ∈ cs, 0 ≤ c ∧ c < (mOf pw : Nat)) ∧ (0 ≤ r ∧ r < (mOf pw : Nat)) ∧ Free pw cs ∧ IsU pw cs 1 ∧ ∀ H' : Hp, Same H H' → Q (.bl true) H'
end
end KL
namespace KL
open PySem PySem.Spec PyProof.Rows L2 RZ StX SrtO Kw KM
theorem max_pow {p : Nat} (hp : 2 ≤ p) : ∀ n : Nat, 1 ≤ n → ∃ k n', n = p ^ k * n' ∧ ¬ p ∣ n' ∧ 1 ≤ n' := by
  intro n
  induction n using Nat.strongRecOn with
  | ind n ih =>
    intro hn
    by_cases d : p ∣ n
    · obtain ⟨m, rfl⟩ := d
      have m1 : 1 ≤ m := by
        rcases Nat.eq_zero_or_pos m with z | z
        · subst z
          omega
        · exact z
      have lt : m < p * m := by
        have : 1 * m < p * m := Nat.mul_lt_mul_of_pos_right (by omega) m1
        omega
      obtain ⟨k, n', e, nd, n1⟩ := ih m lt m1
      exact ⟨k + 1, n', by rw [e, Nat.pow_succ, Nat.mul_comm (p ^ k) p, Nat.mul_assoc], nd, n1⟩
    · exact ⟨0, n, by simp, d, hn⟩
theorem Pw.cop_tail {x : Nat × Nat} {r : List (Nat × Nat)} (hw : Pw (x :: r)) : Nat.Coprime x.1 (mOf r) := by
  have hx := hw.mem List.mem_cons_self
  exact cop_of hx fun d => (List.nodup_cons.mp hw.nodup).1 ((dvd_mOf hx hw.tail).mp d)
/-- what divides a period is a period of some of its primes -/
theorem dvd_pw : ∀ {pw : List (Nat × Nat)}, Pw pw → ∀ n : Nat, n ∣ mOf pw → ∃ pv : List (Nat × Nat), Pw pv ∧ mOf pv = n ∧ (pv.map (·.1)).Sublist (pw.map (·.1)) ∧ prodP pv ≤ prodP pw ∧ 1 ≤ prodP pw
  | [], hw, n, h => ⟨[], hw, (Nat.dvd_one.mp h).symm, List.Sublist.refl _, Nat.le_refl _, Nat.le_refl _⟩
  | x :: r, hw, n, h => by
    have hx := hw.mem List.mem_cons_self
    have x2 := PN_lt _ hx
    have hm := mOf_pos hw
    have n1 : 1 ≤ n := Nat.pos_of_dvd_of_pos h (by omega)
    obtain ⟨k, n', e, nd, n1'⟩ := max_pow x2.1 n n1
    have h' : n ∣ x.1 ^ x.2 * mOf r := h
    have d1 : n' ∣ mOf r := by
      have c : Nat.Coprime n' (x.1 ^ x.2) := (cop_pow (cop_of hx nd) _).symm
      refine c.dvd_of_dvd_mul_left (Nat.dvd_trans ?_ h')
      rw [e]
      exact Nat.dvd_mul_left _ _
    obtain ⟨pv, p1, p2, p3, p4, p5⟩ := dvd_pw hw.tail n' d1
    have pr : 1 ≤ prodP (x :: r) := Nat.mul_pos (show 0 < x.1 by omega) p5
    have le : prodP pv ≤ prodP (x :: r) := Nat.le_trans p4 (Nat.le_mul_of_pos_left _ (by omega))
    rcases Nat.eq_zero_or_pos k with z | kp
    · subst z
      refine ⟨pv, p1, by rw [p2, e]; simp, p3.cons _, le, pr⟩
    · refine ⟨(x.1, k) :: pv, ⟨?_, ?_⟩, ?_, p3.cons_cons _, Nat.mul_le_mul_left _ p4, pr⟩
      · have := p3.cons_cons x.1
        exact this.trans hw.sub
      · intro y hy
        rcases List.mem_cons.mp hy with rfl | hy
        · exact kp
        · exact p1.pos y hy
      · show x.1 ^ k * mOf pv = n
        rw [p2, e]
theorem mem_of_sub {pw pv : List (Nat × Nat)} (h : (pv.map (·.1)).Sublist (pw.map (·.1))) {y : Nat × Nat} (hy : y ∈ pv) : ∃ x ∈ pw, x.1 = y.1 := by
  have := h.subset (List.mem_map_of_mem hy)
  obtain ⟨x, hx, e⟩ := List.mem_map.mp this
  exact ⟨x, hx, e⟩
theorem PerD.dvd {pw : List (Nat × Nat)} (h : PerD pw) {n : Nat} (d : n ∣ mOf pw) : ∃ pv, PerD pv ∧ mOf pv = n ∧ (pv.map (·.1)).Sublist (pw.map (·.1)) := by
  obtain ⟨pv, p1, p2, p3, p4, _⟩ := dvd_pw h.ok n d
  refine ⟨pv, ⟨p1, Nat.le_trans p4 h.few, ?_⟩, p2, p3⟩
  rw [p2]
  exact Nat.lt_of_le_of_lt (Nat.le_of_dvd (mOf_pos h.ok) d) h.lt
theorem Per.dvd {pw : List (Nat × Nat)} (h : Per pw) {n : Nat} (d : n ∣ mOf pw) : ∃ pv, Per pv ∧ mOf pv = n ∧ (pv.map (·.1)).Sublist (pw.map (·.1)) := by
  obtain ⟨pv, p1, p2, p3, p4, _⟩ := dvd_pw h.ok n d
  refine ⟨pv, ⟨p1, Nat.le_trans p4 h.few, ?_⟩, p2, p3⟩
  rw [p2]
  exact Nat.lt_of_le_of_lt (Nat.le_of_dvd (mOf_pos h.ok) d) h.bd
theorem free_mod {pw pv : List (Nat × Nat)} (hv : Pw pv) (hs : (pv.map (·.1)).Sublist (pw.map (·.1))) {cs : List Int} (f : Free pw cs) : Free pv (cs.map fun c => c % ((mOf pv : Nat) : Int)) := by
  intro y hy
  obtain ⟨x, hx, e⟩ := mem_of_sub hs hy
  obtain ⟨c, hc, nd⟩ := f x hx
  rw [e] at nd
  exact ⟨_, List.mem_map_of_mem hc, fun z => nd ((p_emod hv hy c).mp z)⟩
/-- times a unit: the normal form stays -/
theorem nf_mul {pw : List (Nat × Nat)} (h : Pw pw) {cs : List Int} (f : Free pw cs) (r : Int) {u : Int} (nu : ∀ x ∈ pw, ¬ (x.1 : Int) ∣ u) :
    nfC pw (mulM (mOf pw) u cs) = nfC pw cs ∧ nfR pw (mulM (mOf pw) u cs) ((u * r) % ((mOf pw : Nat) : Int)) = nfR pw cs r := by
  have g := free_mul h nu f
  refine (nf_iff h (by simp [mulM]) g f).mpr ?_
  rw [← mulM_append]
  intro i j x y z w hx hy hz hw
  rw [mulM_at hz] at hx
  rw [mulM_at hw] at hy
  cases hx
  cases hy
  have e1 := Int.emod_add_mul_ediv (u * z) ((mOf pw : Nat) : Int)
  have e2 := Int.emod_add_mul_ediv (u * w) ((mOf pw : Nat) : Int)
  exact ⟨(u * w / ((mOf pw : Nat) : Int)) * z - (u * z / ((mOf pw : Nat) : Int)) * w, by grind⟩
theorem mulM_len (m : Nat) (u : Int) (cs : List Int) : (mulM m u cs).length = cs.length := List.length_map _
theorem SOk.mul {pw : List (Nat × Nat)} {cs : List Int} {r : Int} (h : SOk pw cs r) {u : Int} (nu : ∀ x ∈ pw, ¬ (x.1 : Int) ∣ u) : SOk pw (mulM (mOf pw) u cs) ((u * r) % ((mOf pw : Nat) : Int)) := by
  have hm := mOf_pos h.per.ok
  exact SOk.mk2 h.per (by rw [mulM_len]; exact h.l1) (by rw [mulM_len]; exact h.l3) (fun c hc => mem_mulM hm hc) (free_mul h.per.ok nu h.fr) (emodB _ (by omega))
/-- -1, by the period, is a unit -/
theorem unit_less {pw : List (Nat × Nat)} (h : Pw pw) : ∀ x ∈ pw, ¬ (x.1 : Int) ∣ ((mOf pw : Nat) : Int) - 1 := by
  intro x hx d
  have pm : (x.1 : Int) ∣ ((mOf pw : Nat) : Int) := p_dvd h hx (Int.natCast_dvd_natCast.mpr (part_dvd_mOf h hx))
  have := Int.dvd_sub pm d
  rw [show ((mOf pw : Nat) : Int) - (((mOf pw : Nat) : Int) - 1) = 1 by omega] at this
  exact p_one (h.mem hx) this
end KL
namespace KL
open PySem PySem.Spec PyProof.Rows L2 RZ StX SrtO Kw KM
theorem cutV_whole (xs : List V) {lo hi : Option Int} (h : HT.sIx xs.length 0 lo = 0 ∧ HT.sIx xs.length xs.length hi = xs.length) : cutV xs lo hi = xs := by
  unfold cutV
  rw [h.1, h.2, List.drop_zero, Nat.sub_zero, List.take_length]
theorem sl_any {K : PySem.W.Frag} {H : Hp} {Q : VK} {a : Addr} {xs : List V} {lo hi : Option Int} (ha : SqT K H a xs)
    (q : ∀ (p : Addr) (H' : Hp), Same H H' → SqT K H' p (cutV xs lo hi) → Q (.ref p) H') : rSlA K (.ref a) lo hi H Q := by
  refine ⟨a, xs, rfl, ha, fun h => ?_, fun _ p np => ?_⟩
  · exact q a H (Same.refl H) (by rw [cutV_whole xs h]; exact ha)
  · exact q p _ (same_new np _) (SqT.of upd_same)
theorem cut_to {α : List V} {k : Nat} (h : k ≤ α.length) : cutV α none (some (k : Int)) = α.take k := by
  unfold cutV
  rw [HT.sIx_none, HT.sIx_nat, Nat.min_eq_left h, List.drop_zero, Nat.sub_zero]
theorem cut_from {α : List V} {k : Nat} (h : k ≤ α.length) : cutV α (some (k : Int)) none = α.drop k := by
  unfold cutV
  rw [HT.sIx_none, HT.sIx_nat, Nat.min_eq_left h, ← List.length_drop, List.take_length]
end KL
namespace KL
open PySem PySem.Spec PyProof.Rows L2 RZ StX SrtO Kw KM
/-! ### stripes by steps: the greatest common part -/
/-- the greatest integer that divides m and all numbers -/
def gN (m : Nat) (as : List Int) : Nat := (gcdL (m : Int) as).natAbs
theorem gN_eq (m : Nat) (as : List Int) : gcdL (m : Int) as = ((gN m as : Nat) : Int) := by
  have := gcdL_nonneg as (m : Int) (Int.natCast_nonneg _)
  unfold gN
  omega
theorem gN_dvd (m : Nat) (as : List Int) : gN m as ∣ m := by
  have := (gcdL_dvd as (m : Int)).1
  rwa [Int.natAbs_natCast] at this
theorem gN_mem {m : Nat} {as : List Int} {a : Int} (h : a ∈ as) : ((gN m as : Nat) : Int) ∣ a := Int.ofNat_dvd_left.mpr ((gcdL_dvd as (m : Int)).2 a h)
theorem gN_pos {m : Nat} (h : 1 ≤ m) (as : List Int) : 1 ≤ gN m as := Nat.pos_of_dvd_of_pos (gN_dvd m as) h
theorem gN_max {m : Nat} {as : List Int} {p : Nat} (h : p ∣ m) (ha : ∀ a ∈ as, (p : Int) ∣ a) : p ∣ gN m as :=
  gcdL_mem as (m : Int) p (by rw [Int.natAbs_natCast]; exact h) fun a h => Int.ofNat_dvd_left.mp (ha a h)
/-- numbers that are those of another row times u, by m -/
structure Alk (m : Nat) (u : Int) (as bs : List Int) : Prop where
  len : as.length = bs.length
  at_ : ∀ (i : Nat) (a b : Int), as[i]? = some a → bs[i]? = some b → (m : Int) ∣ b - u * a
theorem Alk.mem {m : Nat} {u : Int} {as bs : List Int} (h : Alk m u as bs) {b : Int} (hb : b ∈ bs) : ∃ a ∈ as, (m : Int) ∣ b - u * a := by
  obtain ⟨i, hi, e⟩ := List.mem_iff_getElem.mp hb
  have hi' : i < as.length := by rw [h.len]; exact hi
  exact ⟨as[i], List.getElem_mem hi', h.at_ i _ _ (List.getElem?_eq_getElem hi') (by rw [List.getElem?_eq_getElem hi, e])⟩
theorem Alk.mem' {m : Nat} {u : Int} {as bs : List Int} (h : Alk m u as bs) {a : Int} (ha : a ∈ as) : ∃ b ∈ bs, (m : Int) ∣ b - u * a := by
  obtain ⟨i, hi, e⟩ := List.mem_iff_getElem.mp ha
  have hi' : i < bs.length := by rw [← h.len]; exact hi
  exact ⟨bs[i], List.getElem_mem hi', h.at_ i _ _ (by rw [List.getElem?_eq_getElem hi, e]) (List.getElem?_eq_getElem hi')⟩
theorem unit_dvd {m : Nat} {u : Int} (hc : Nat.Coprime u.natAbs m) {p : Nat} (h : p ∣ m) {a : Int} (d : (p : Int) ∣ u * a) : (p : Int) ∣ a := by
  have c : Nat.Coprime p u.natAbs := (Nat.Coprime.coprime_dvd_right h hc).symm
  rw [Int.ofNat_dvd_left, Int.natAbs_mul] at d
  exact Int.ofNat_dvd_left.mpr (c.dvd_of_dvd_mul_left d)
theorem Alk.gN_eq {m : Nat} {u : Int} {as bs : List Int} (h : Alk m u as bs) (hc : Nat.Coprime u.natAbs m) : gN m bs = gN m as := by
  refine Nat.dvd_antisymm (gN_max (gN_dvd m bs) fun a ha => ?_) (gN_max (gN_dvd m as) fun b hb => ?_)
  · obtain ⟨b, hb, d⟩ := h.mem' ha
    have d1 : ((gN m bs : Nat) : Int) ∣ b - u * a := Int.dvd_trans (Int.natCast_dvd_natCast.mpr (gN_dvd m bs)) d
    have d2 := Int.dvd_sub (gN_mem (m := m) hb) d1
    rw [show b - (b - u * a) = u * a by omega] at d2
    exact unit_dvd hc (gN_dvd m bs) d2
  · obtain ⟨a, ha, d⟩ := h.mem hb
    have d1 : ((gN m as : Nat) : Int) ∣ b - u * a := Int.dvd_trans (Int.natCast_dvd_natCast.mpr (gN_dvd m as)) d
    have d2 := Int.dvd_add d1 (Int.dvd_trans (gN_mem (m := m) ha) (Int.dvd_mul_left u a))
    rw [show b - u * a + u * a = b by omega] at d2
    exact d2
theorem alk_dvd {m g : Nat} {u r s : Int} (hc : Nat.Coprime u.natAbs m) (hg : g ∣ m) (d : (m : Int) ∣ s - u * r) : (g : Int) ∣ s ↔ (g : Int) ∣ r := by
  have d1 : (g : Int) ∣ s - u * r := Int.dvd_trans (Int.natCast_dvd_natCast.mpr hg) d
  constructor
  · intro h
    have d2 := Int.dvd_sub h d1
    rw [show s - (s - u * r) = u * r by omega] at d2
    exact unit_dvd hc hg d2
  · intro h
    have d2 := Int.dvd_add d1 (Int.dvd_trans h (Int.dvd_mul_left u r))
    rw [show s - u * r + u * r = s by omega] at d2
    exact d2
/-- all by g -/
def byG (g : Nat) (as : List Int) : List Int := as.map fun a => a / (g : Int)
theorem byG_len (g : Nat) (as : List Int) : (byG g as).length = as.length := List.length_map _
theorem byG_at {g : Nat} {as : List Int} {i : Nat} {x : Int} (h : (byG g as)[i]? = some x) : ∃ a, as[i]? = some a ∧ x = a / (g : Int) := by
  unfold byG at h
  rw [List.getElem?_map] at h
  obtain ⟨a, ha, e⟩ := Option.map_eq_some_iff.mp h
  exact ⟨a, ha, e.symm⟩
theorem byG_bd {g : Nat} {b : Nat} {a : Int} (h : Bd b a) : Bd b (a / (g : Int)) := by
  unfold Bd at *
  exact Nat.lt_of_le_of_lt (Int.natAbs_ediv_le_natAbs a (g : Int)) h
/-- the period that is left when g is taken out -/
structure ByG (pw pv : List (Nat × Nat)) (as : List Int) : Prop where
  w : Pw pw
  v : Pw pv
  eq : gN (mOf pw) as * mOf pv = mOf pw
theorem ByG.free {pw pv : List (Nat × Nat)} {as : List Int} (h : ByG pw pv as) : Free pv (byG (gN (mOf pw) as) as) := by
  intro x hx
  refine Classical.byContradiction fun no => ?_
  have hp := h.v.mem hx
  have p2 := PN_lt _ hp
  have hm := mOf_pos h.w
  have g1 := gN_pos hm as
  have xv : x.1 ∣ mOf pv := (dvd_mOf hp h.v).mpr (List.mem_map_of_mem hx)
  have d : gN (mOf pw) as * x.1 ∣ gN (mOf pw) as := by
    refine gN_max ?_ fun a ha => ?_
    · have := Nat.mul_dvd_mul_left (gN (mOf pw) as) xv
      rwa [h.eq] at this
    · have hd : (x.1 : Int) ∣ a / ((gN (mOf pw) as : Nat) : Int) := Classical.byContradiction fun nd => no ⟨_, List.mem_map_of_mem ha, nd⟩
      have := Int.mul_dvd_mul_left ((gN (mOf pw) as : Nat) : Int) hd
      rw [Int.mul_ediv_cancel' (gN_mem ha)] at this
      rwa [Int.natCast_mul]
  have := Nat.le_of_dvd (by omega) d
  have : gN (mOf pw) as * 2 ≤ gN (mOf pw) as * x.1 := Nat.mul_le_mul_left _ p2.1
  omega
theorem ByG.n_eq {pw pv : List (Nat × Nat)} {as : List Int} (h : ByG pw pv as) : mOf pw / gN (mOf pw) as = mOf pv := by
  have g1 := gN_pos (mOf_pos h.w) as
  exact Nat.div_eq_of_eq_mul_right (by omega) h.eq.symm
theorem ByG.int {pw pv : List (Nat × Nat)} {as : List Int} (h : ByG pw pv as) : ((mOf pw : Nat) : Int) = ((gN (mOf pw) as : Nat) : Int) * ((mOf pv : Nat) : Int) := by
  rw [← Int.natCast_mul, h.eq]
theorem cancel_g {g n : Int} (h : 0 < g) {z : Int} : g * n ∣ g * z ↔ n ∣ z := Int.mul_dvd_mul_iff_left (by omega)
/-- told by numbers alike, it is the same normal form -/
theorem ByG.alk {pw pv : List (Nat × Nat)} {as bs : List Int} {u r s : Int} (h : ByG pw pv as) (h' : Alk (mOf pw) u as bs) (hc : Nat.Coprime u.natAbs (mOf pw)) (d : ((mOf pw : Nat) : Int) ∣ s - u * r) (hr : ((gN (mOf pw) as : Nat) : Int) ∣ r) :
    ByG pw pv bs ∧ nfC pv (byG (gN (mOf pw) bs) bs) = nfC pv (byG (gN (mOf pw) as) as) ∧ nfR pv (byG (gN (mOf pw) bs) bs) (s / ((gN (mOf pw) bs : Nat) : Int)) = nfR pv (byG (gN (mOf pw) as) as) (r / ((gN (mOf pw) as : Nat) : Int)) := by
  have e := h'.gN_eq hc
  have hb : ByG pw pv bs := ⟨h.w, h.v, by rw [e]; exact h.eq⟩
  refine ⟨hb, ?_⟩
  have hs := (alk_dvd hc (gN_dvd (mOf pw) as) d).mpr hr
  refine (nf_iff h.v (by rw [byG_len, byG_len]; exact h'.len.symm) hb.free h.free).mpr ?_
  have g0 : (0 : Int) < ((gN (mOf pw) as : Nat) : Int) := by have := gN_pos (mOf_pos h.w) as; omega
  -- each number is the other's times u by n
  have key : ∀ (i : Nat) (x z : Int), (byG (gN (mOf pw) bs) bs ++ [s / ((gN (mOf pw) bs : Nat) : Int)])[i]? = some x → (byG (gN (mOf pw) as) as ++ [r / ((gN (mOf pw) as : Nat) : Int)])[i]? = some z → ((mOf pv : Nat) : Int) ∣ x - u * z := by
    intro i x z hx hz
    have fin : ∀ a b : Int, ((gN (mOf pw) as : Nat) : Int) ∣ a → ((gN (mOf pw) as : Nat) : Int) ∣ b → ((mOf pw : Nat) : Int) ∣ b - u * a → ((mOf pv : Nat) : Int) ∣ b / ((gN (mOf pw) as : Nat) : Int) - u * (a / ((gN (mOf pw) as : Nat) : Int)) := by
      intro a b ha hb hd
      obtain ⟨a', rfl⟩ := ha
      obtain ⟨b', rfl⟩ := hb
      rw [Int.mul_ediv_cancel_left _ (by omega), Int.mul_ediv_cancel_left _ (by omega)]
      rw [h.int, show ((gN (mOf pw) as : Nat) : Int) * b' - u * (((gN (mOf pw) as : Nat) : Int) * a') = ((gN (mOf pw) as : Nat) : Int) * (b' - u * a') by grind] at hd
      exact (cancel_g g0).mp hd
    rw [e] at hx
    rcases Nat.lt_or_ge i as.length with c | c
    · rw [List.getElem?_append_left (by rw [byG_len, ← h'.len]; exact c)] at hx
      rw [List.getElem?_append_left (by rw [byG_len]; exact c)] at hz
      obtain ⟨b, eb, rfl⟩ := byG_at hx
      obtain ⟨a, ea, rfl⟩ := byG_at hz
      exact fin a b (gN_mem (List.mem_of_getElem? ea)) (by rw [← e]; exact gN_mem (List.mem_of_getElem? eb)) (h'.at_ i a b ea eb)
    · have e1 : i = as.length := by
        have := (List.getElem?_eq_some_iff.mp hz).1
        rw [List.length_append, byG_len, List.length_singleton] at this
        omega
      rw [List.getElem?_append_right (by rw [byG_len, ← h'.len]; exact c), byG_len, ← h'.len, e1, Nat.sub_self] at hx
      rw [List.getElem?_append_right (by rw [byG_len]; exact c), byG_len, e1, Nat.sub_self] at hz
      cases hx
      cases hz
      exact fin r s hr hs d
  intro i j x y z w hx hy hz hw
  obtain ⟨k1, e1⟩ := key i x z hx hz
  obtain ⟨k2, e2⟩ := key j y w hy hw
  exact ⟨k1 * w - k2 * z, by grind⟩
/-- made less by the period: the same normal form -/
theorem nf_mod {pv : List (Nat × Nat)} (hv : Pw pv) {cs : List Int} (f : Free pv cs) (r : Int) :
    Free pv (cs.map fun c => c % ((mOf pv : Nat) : Int)) ∧ nfC pv (cs.map fun c => c % ((mOf pv : Nat) : Int)) = nfC pv cs ∧ nfR pv (cs.map fun c => c % ((mOf pv : Nat) : Int)) (r % ((mOf pv : Nat) : Int)) = nfR pv cs r := by
  have e : (cs.map fun c => c % ((mOf pv : Nat) : Int)) = mulM (mOf pv) 1 cs := by
    unfold mulM
    refine List.map_congr_left fun c _ => ?_
    rw [Int.one_mul]
  have nu : ∀ x ∈ pv, ¬ (x.1 : Int) ∣ 1 := fun x hx => p_one (hv.mem hx)
  have h := nf_mul hv f r nu
  rw [Int.one_mul] at h
  rw [e]
  exact ⟨free_mul hv nu f, h⟩
/-- the cells -/
theorem nf_cells {pv : List (Nat × Nat)} (hv : Pw pv) {cs : List Int} (f : Free pv cs) (r : Int) (ys : List Int) : ((mOf pv : Nat) : Int) ∣ dotI (nfC pv cs) ys - nfR pv cs r ↔ ((mOf pv : Nat) : Int) ∣ dotI cs ys - r := by
  have hu := nfU_is hv f
  have e : (dotI (nfC pv cs) ys - nfR pv cs r) % ((mOf pv : Nat) : Int) = (nfU pv cs * (dotI cs ys - r)) % ((mOf pv : Nat) : Int) := by
    unfold nfC nfR mulM
    rw [Int.sub_emod, dot_unit, Int.emod_emod, ← Int.sub_emod, ← Int.mul_sub]
  rw [Int.dvd_iff_emod_eq_zero, e, ← Int.dvd_iff_emod_eq_zero]
  exact ⟨fun d => unit_drop hv (fun x hx => hu.unit hv f hx) d, fun d => Int.dvd_trans d (Int.dvd_mul_left _ _)⟩
theorem dot_byG {g : Int} (g0 : 0 < g) : ∀ (as ys : List Int), (∀ a ∈ as, g ∣ a) → dotI as ys = g * dotI (as.map fun a => a / g) ys
  | [], ys, _ => by
    show (0 : Int) = g * 0
    rw [Int.mul_zero]
  | a :: as, [], _ => by
    show (0 : Int) = g * 0
    rw [Int.mul_zero]
  | a :: as, y :: ys, h => by
    have ih := dot_byG g0 as ys fun b hb => h b (List.mem_cons_of_mem _ hb)
    rw [List.map_cons, dot_cons, dot_cons, ih, Int.mul_add, ← Int.mul_assoc, Int.mul_ediv_cancel' (h a List.mem_cons_self)]
theorem ByG.cells {pw pv : List (Nat × Nat)} {as : List Int} {r : Int} (h : ByG pw pv as) (hr : ((gN (mOf pw) as : Nat) : Int) ∣ r) (ys : List Int) :
    ((mOf pv : Nat) : Int) ∣ dotI (nfC pv (byG (gN (mOf pw) as) as)) ys - nfR pv (byG (gN (mOf pw) as) as) (r / ((gN (mOf pw) as : Nat) : Int)) ↔ ((mOf pw : Nat) : Int) ∣ dotI as ys - r := by
  have g0 : (0 : Int) < ((gN (mOf pw) as : Nat) : Int) := by have := gN_pos (mOf_pos h.w) as; omega
  rw [nf_cells h.v h.free, dot_byG g0 as ys fun a ha => gN_mem ha, h.int]
  obtain ⟨r', rfl⟩ := hr
  rw [Int.mul_ediv_cancel_left _ (by omega), ← Int.mul_sub]
  exact (cancel_g g0).symm
/-! ### the parts of a divisor of the period -/
theorem part_gcd {pw pv : List (Nat × Nat)} (h : Pw pw) (hv : Pw pv) (d : mOf pv ∣ mOf pw) {x y : Nat × Nat} (hx : x ∈ pw) (hy : y ∈ pv) (e : y.1 = x.1) : Nat.gcd (qOf x) (mOf pv) = qOf y := by
  have hp := h.mem hx
  have p2 := PN_lt _ hp
  have dy := part_dvd_mOf hv hy
  have cx : Nat.Coprime x.1 (mOf pw / qOf x) := cop_of hp fun z => ((cof_dvd h hx hx).mp z) rfl
  have cy : Nat.Coprime x.1 (mOf pv / qOf y) := cop_of hp fun z => by
    rw [← e] at z
    exact ((cof_dvd hv hy hy).mp z) rfl
  have q1 : qOf y = x.1 ^ y.2 := by unfold qOf; rw [e]
  have le : x.1 ^ y.2 ∣ x.1 ^ x.2 := by
    have dd : x.1 ^ y.2 ∣ mOf pw := by rw [← q1]; exact Nat.dvd_trans dy d
    rw [← Nat.mul_div_cancel' (part_dvd_mOf h hx)] at dd
    exact Nat.Coprime.dvd_of_dvd_mul_right (cop_pow cx _) dd
  obtain ⟨k, ek⟩ := le
  have en : mOf pv = x.1 ^ y.2 * (mOf pv / qOf y) := by
    rw [← q1]
    exact (Nat.mul_div_cancel' dy).symm
  have ck : Nat.Coprime k (mOf pv / qOf y) := by
    have : k ∣ x.1 ^ x.2 := ⟨x.1 ^ y.2, by rw [ek, Nat.mul_comm]⟩
    exact Nat.Coprime.coprime_dvd_left this (cop_pow cy _)
  have e2 : qOf x = x.1 ^ y.2 * k := ek
  rw [e2, q1]
  generalize mOf pv / qOf y = c at en ck
  rw [en, Nat.gcd_mul_left, ck, Nat.mul_one]
theorem eq_of_keys {α β : Type} : ∀ {l s : List (α × β)}, l.map (·.1) = s.map (·.1) → (∀ a ∈ l, ∀ b ∈ s, a.1 = b.1 → a = b) → l = s
  | [], [], _, _ => rfl
  | [], b :: s, h, _ => by cases h
  | a :: l, [], h, _ => by cases h
  | a :: l, b :: s, h, q => by
    rw [List.map_cons, List.map_cons] at h
    obtain ⟨h1, h2⟩ := List.cons.inj h
    rw [q a List.mem_cons_self b List.mem_cons_self h1, eq_of_keys h2 fun x hx y hy => q x (List.mem_cons_of_mem _ hx) y (List.mem_cons_of_mem _ hy)]
theorem parts_of_div {pw pv : List (Nat × Nat)} (h : Pw pw) (hv : Pw pv) (d : mOf pv ∣ mOf pw) :
    ((pw.filter fun x => decide (x.1 ∣ mOf pv)).map fun x => (x.1, Nat.gcd (qOf x) (mOf pv))) = pv.map fun y => (y.1, qOf y) := by
  refine eq_of_keys ?_ ?_
  · rw [List.map_map, List.map_map]
    show (pw.filter fun x => decide (x.1 ∣ mOf pv)).map (·.1) = pv.map (·.1)
    rw [← primes_mOf hv, show (pw.filter fun x => decide (x.1 ∣ mOf pv)).map (·.1) = (pw.map (·.1)).filter (fun p => decide (p ∣ mOf pv)) from (List.filter_map (p := fun p => decide (p ∣ mOf pv)) (f := fun x : Nat × Nat => x.1) (l := pw)).symm, ← primes_mOf h, List.filter_filter]
    refine List.filter_congr fun p _ => ?_
    by_cases c : p ∣ mOf pv
    · have := Nat.dvd_trans c d
      simp [c, this]
    · simp [c]
  · intro a ha b hb e
    obtain ⟨x, hx, rfl⟩ := List.mem_map.mp ha
    obtain ⟨y, hy, rfl⟩ := List.mem_map.mp hb
    have hx' := (List.mem_filter.mp hx).1
    have e : x.1 = y.1 := e
    rw [part_gcd h hv d hx' hy e.symm, e]
end KL
namespace KL
open PySem PySem.Spec PyProof.Rows L2 RZ StX SrtO Kw KM
/-- what is told of a step: nothing, or the normal stripe -/
structure ToldS (K : PySem.W.Frag) (H : Hp) (pw nw : List (Nat × Nat)) (as : List Int) (r : Int) (v : V) : Prop where
  no : ¬ ((gN (mOf pw) as : Nat) : Int) ∣ r → v = .non
  yes : ((gN (mOf pw) as : Nat) : Int) ∣ r → ∃ a, v = .ref a ∧ SAt K H a (mOf nw) (nfC nw (byG (gN (mOf pw) as) as)) (nfR nw (byG (gN (mOf pw) as) as) (r / ((gN (mOf pw) as : Nat) : Int)))
theorem ToldS.same {K : PySem.W.Frag} {H H' : Hp} {pw nw : List (Nat × Nat)} {as : List Int} {r : Int} {v : V} (h : ToldS K H pw nw as r v) (s : Same H H') : ToldS K H' pw nw as r v :=
  ⟨h.no, fun d => by
    obtain ⟨a, e, hA⟩ := h.yes d
    exact ⟨a, e, hA.mono s⟩⟩
theorem gdvd {g : Nat} {r : Int} : (g : Int) ∣ r ↔ r % (g : Int) = 0 := Int.dvd_iff_emod_eq_zero
theorem nat_div (m g : Nat) : ((m : Nat) : Int) / ((g : Nat) : Int) = ((m / g : Nat) : Int) := (Int.natCast_ediv m g).symm
section
variable {P : Program} {w : World} {K : PySem.W.Frag} {mg : Str → Option Value} {base : Heap}
/-! ### told by a step, not yet normal -/
def sp_stripe_told_by (K : PySem.W.Frag) : Sp := fun vs H Q _ => ∃ (b : Addr) (pw nw : List (Nat × Nat)) (as : List Int) (r : Int), vs = [.int ((mOf pw : Nat) : Int), .ref b, .int r] ∧ Per pw ∧ ByG pw nw as ∧ SqT K H b (as.map V.int) ∧ as.length ≤ 3 ∧
  (¬ ((gN (mOf pw) as : Nat) : Int) ∣ r → Q .non H) ∧
  (((gN (mOf pw) as : Nat) : Int) ∣ r → ∀ (p : Addr) (H' : Hp), Same H H' → SAt K H' p (mOf nw) ((byG (gN (mOf pw) as) as).map fun c => c % ((mOf nw : Nat) : Int)) ((r / ((gN (mOf pw) as : Nat) : Int)) % ((mOf nw : Nat) : Int)) → Q (.ref p) H')
/-! ### the program's own -/
def sp_stripe_by (K : PySem.W.Frag) : Sp := fun vs H Q _ => ∃ (b : Addr) (pw nw : List (Nat × Nat)) (as : List Int) (r : Int), vs = [.ref b, .int ((mOf pw : Nat) : Int), .int r] ∧ Per pw ∧ Per nw ∧ ByG pw nw as ∧ SqT K H b (as.map V.int) ∧ 1 ≤ as.length ∧ as.length ≤ 3 ∧
  ∀ (v : V) (H' : Hp), Same H H' → ToldS K H' pw nw as r v → Q v H'
end
end KL
namespace KL
open PySem PySem.Spec PyProof.Rows L2 RZ StX SrtO Kw KM
/-- a list of integers that grows while the deck is drawn from -/
structure IntsD (d l : Addr) (H : Hp) (D : Addr) (b i : Nat) (H' : Hp) : Prop where
  st : Stp d l H H'
  ex : ∃ ts : List Int, ts.length = i ∧ (∀ t ∈ ts, Bd b t) ∧ H' D = some (.lst (ts.map V.int))
theorem IntsD.start {d l : Addr} {H H1 : Hp} {D : Addr} {b : Nat} (s : Stp d l H H1) (nD : H D = none) : IntsD d l H D b 0 (upd H1 D (.lst [])) :=
  ⟨s.upd nD, [], rfl, fun _ h => absurd h List.not_mem_nil, upd_same⟩
theorem IntsD.next {d l : Addr} {H H1 H2 : Hp} {D : Addr} {b i : Nat} {v : Int} (h : IntsD d l H D b i H1) (nD : H D = none) (s : Stp d l H1 H2) (hb : Bd b v) (hi : i < 1000) :
    ∃ acc, H2 D = some (.lst acc) ∧ acc.length < sizeLine ∧ IntsD d l H D b (i + 1) (upd H2 D (.lst (acc ++ [V.int v]))) := by
  obtain ⟨ts, tl, tb, te⟩ := h.ex
  refine ⟨_, s.lst (h.st.pre.off nD) te, ?_, (h.st.trans s).upd nD, ts ++ [v], ?_, ?_, ?_⟩
  · rw [List.length_map, tl]
    exact Nat.lt_of_lt_of_le hi (by decide)
  · rw [List.length_append, tl]
    rfl
  · intro t ht
    rcases List.mem_append.mp ht with k | k
    · exact tb t k
    · rw [List.mem_singleton.mp k]
      exact hb
  · rw [upd_same, List.map_append]
    rfl
/-- a list of integers that grows, nothing else -/
structure IntsS (H : Hp) (D : Addr) (b i : Nat) (H' : Hp) : Prop where
  st : Same H H'
  ex : ∃ ts : List Int, ts.length = i ∧ (∀ t ∈ ts, Bd b t) ∧ H' D = some (.lst (ts.map V.int))
theorem IntsS.start {H : Hp} {D : Addr} {b : Nat} (nD : H D = none) : IntsS H D b 0 (upd H D (.lst [])) := ⟨same_new nD _, [], rfl, fun _ h => absurd h List.not_mem_nil, upd_same⟩
theorem IntsS.next {H H1 H2 : Hp} {D : Addr} {b i : Nat} {v : Int} (h : IntsS H D b i H1) (nD : H D = none) (s : Same H1 H2) (hb : Bd b v) (hi : i < 1000) :
    ∃ acc, H2 D = some (.lst acc) ∧ acc.length < sizeLine ∧ IntsS H D b (i + 1) (upd H2 D (.lst (acc ++ [V.int v]))) := by
  obtain ⟨ts, tl, tb, te⟩ := h.ex
  refine ⟨_, s _ _ te, ?_, same_upd2 (h.st.trans s) nD, ts ++ [v], ?_, ?_, ?_⟩
  · rw [List.length_map, tl]
    exact Nat.lt_of_lt_of_le hi (by decide)
  · rw [List.length_append, tl]
    rfl
  · intro t ht
    rcases List.mem_append.mp ht with k | k
    · exact tb t k
    · rw [List.mem_singleton.mp k]
      exact hb
  · rw [upd_same, List.map_append]
    rfl
/-- pairs of numbers, each a tuple of its own -/
structure PrsAt (K : PySem.W.Frag) (H : Hp) (as : List Addr) (L : List (Nat × Nat)) : Prop where
  len : as.length = L.length
  at_ : ∀ (i : Nat) (t : Addr) (x : Nat × Nat), as[i]? = some t → L[i]? = some x → SqT K H t [.int x.1, .int x.2]
theorem PrsAt.same {K : PySem.W.Frag} {H H' : Hp} {as : List Addr} {L : List (Nat × Nat)} (h : PrsAt K H as L) (s : Same H H') : PrsAt K H' as L := ⟨h.len, fun i t x e1 e2 => s.sqt (h.at_ i t x e1 e2)⟩
theorem PrsAt.nil {K : PySem.W.Frag} {H : Hp} : PrsAt K H [] [] := ⟨rfl, fun _ _ _ e => by cases e⟩
theorem PrsAt.snoc {K : PySem.W.Frag} {H : Hp} {as : List Addr} {L : List (Nat × Nat)} {t : Addr} {x : Nat × Nat} (h : PrsAt K H as L) (ht : SqT K H t [.int x.1, .int x.2]) : PrsAt K H (as ++ [t]) (L ++ [x]) := by
  refine ⟨by simp [h.len], fun i u y h1 h2 => ?_⟩
  rcases Nat.lt_or_ge i as.length with c | c
  · rw [List.getElem?_append_left c] at h1
    rw [List.getElem?_append_left (h.len ▸ c)] at h2
    exact h.at_ i u y h1 h2
  · rw [List.getElem?_append_right c] at h1
    rw [List.getElem?_append_right (h.len ▸ c)] at h2
    have e : i - as.length = 0 := by
      have := (List.getElem?_eq_some_iff.mp h1).1
      simp at this
      omega
    rw [e] at h1
    rw [← h.len, e] at h2
    cases h1
    cases h2
    exact ht
theorem PrsAt.pw {K : PySem.W.Frag} {H : Hp} {a : Addr} {as : List Addr} {L : List (Nat × Nat)} {pw : List (Nat × Nat)} (ha : SqL K H a (as.map V.ref)) (h : PrsAt K H as L) (e : L = pw.map fun y => (y.1, qOf y)) : PwAt K H a pw := by
  subst e
  refine ⟨as, ha, by simpa using h.len, fun i t x e1 e2 => ?_⟩
  exact h.at_ i t (x.1, qOf x) e1 (by rw [List.getElem?_map, e2]; rfl)
end KL
namespace KL
open PySem PySem.Spec PyProof.Rows L2 RZ StX SrtO Kw KM
/-! ### stripes as things, and their order -/
/-- a stripe's three -/
structure Sr where
  m : Nat
  c : List Int
  r : Int
  deriving DecidableEq
abbrev Sr.D (s : Sr) : PyData := strD s.m s.c s.r
def numsK (cs : List Int) : List NK := cs.map PySem.NestedKey.num
def Sr.K (s : Sr) : NK := .tup [.num s.m, .tup (numsK s.c), .num s.r]
theorem datas_nums : ∀ cs : List Int, PySem.NestedKey.datas (numsK cs) = cs.map PyData.int
  | [] => rfl
  | c :: cs => by
    show PyData.int c :: PySem.NestedKey.datas (numsK cs) = _
    rw [datas_nums cs]
    rfl
theorem Sr.K_data (s : Sr) : s.K.data = s.D := by
  show PyData.tuple [.int s.m, .tuple (PySem.NestedKey.datas (numsK s.c)), .int s.r] = _
  rw [datas_nums]
  rfl
theorem depth_nums : ∀ cs : List Int, PySem.NestedKey.depthAll (numsK cs) = 0
  | [] => rfl
  | c :: cs => by
    show max 0 (PySem.NestedKey.depthAll (numsK cs)) = 0
    rw [depth_nums cs]
    rfl
theorem Sr.K_depth (s : Sr) : s.K.depth ≤ 8 := by
  show max 0 (max (PySem.NestedKey.depthAll (numsK s.c) + 1) (max 0 0)) + 1 ≤ 8
  rw [depth_nums]
  decide
theorem numsK_inj : ∀ {a b : List Int}, numsK a = numsK b → a = b
  | [], [], _ => rfl
  | [], _ :: _, h => by cases h
  | _ :: _, [], h => by cases h
  | x :: a, y :: b, h => by
    have h' : PySem.NestedKey.num x :: numsK a = .num y :: numsK b := h
    obtain ⟨h1, h2⟩ := List.cons.inj h'
    rw [numsK_inj h2]
    cases h1
    rfl
theorem Sr.K_inj {a b : Sr} (h : a.K = b.K) : a = b := by
  obtain ⟨m, c, r⟩ := a
  obtain ⟨n, d, s⟩ := b
  have h' := PySem.NestedKey.tup.inj h
  obtain ⟨h1, h2⟩ := List.cons.inj h'
  obtain ⟨h3, h4⟩ := List.cons.inj h2
  obtain ⟨h5, _⟩ := List.cons.inj h4
  have e1 := PySem.NestedKey.num.inj h1
  have e2 := numsK_inj (PySem.NestedKey.tup.inj h3)
  have e3 := PySem.NestedKey.num.inj h5
  simp only at e1 e2 e3
  have e1 : m = n := by omega
  rw [e1, e2, e3]
theorem Sr.D_inj {a b : Sr} : a.D = b.D ↔ a = b := by
  refine ⟨fun h => ?_, fun h => by rw [h]⟩
  obtain ⟨m, c, r⟩ := a
  obtain ⟨n, d, s⟩ := b
  obtain ⟨h1, h2, h3⟩ := strD_inj.mp h
  simp only at h1 h2 h3
  rw [h1, h2, h3]
/-- the stripe s stands at a -/
abbrev SrAt (K : PySem.W.Frag) (H : Hp) (a : Addr) (s : Sr) : Prop := SAt K H a s.m s.c s.r
theorem SrAt.key {K : PySem.W.Frag} {H : Hp} {a : Addr} {s : Sr} (h : SrAt K H a s) : KeyN K H s.K a := ⟨by rw [Sr.K_data]; exact dp_str h, s.K_depth⟩
open PySem.W in
theorem alike_ints2 (xs ys : List Int) : alikeAll (xs.map PyData.int) (ys.map PyData.int) = true := alike_ints xs ys
open PySem.W in
theorem Sr.alike (a b : Sr) : alike a.D b.D = true := by
  show alikeAll [.int a.m, .tuple (a.c.map PyData.int), .int a.r] [.int b.m, .tuple (b.c.map PyData.int), .int b.r] = true
  simp [alikeAll, PySem.W.alike, alike_ints]
/-- a < b, as Python has it -/
def srLt (a b : Sr) : Bool := PySem.W.dataLt a.D b.D
theorem srLt_irrefl (a : Sr) : srLt a a = false := lex_irrefl _
theorem srLt_trans {a b c : Sr} (h1 : srLt a b = true) (h2 : srLt b c = true) : srLt a c = true := lex_trans _ _ _ h1 h2
open PySem.W in
theorem toks_ne {x y : PyData} (h : alike x y = true) (e : PyData.eqv x y = false) : keyToks x ≠ keyToks y := by
  intro z
  have q := (toks_eqv x y h).2 e [] [Sum.inl 0]
  rw [z] at q
  rw [List.append_nil, lex_irrefl] at q
  have : lexLt itemOrd (keyToks y ++ []) (keyToks y ++ [Sum.inl 0]) = lexLt itemOrd [] [Sum.inl 0] := lex_pre _ _ _
  rw [List.append_nil] at this
  rw [this] at q
  exact Bool.noConfusion q
theorem srLt_total {a b : Sr} (h : a ≠ b) (h1 : srLt a b = false) : srLt b a = true := by
  cases h2 : srLt b a with
  | true => rfl
  | false =>
    have e := lex_total _ _ h1 h2
    refine absurd e (toks_ne (Sr.alike a b) ?_)
    cases q : PyData.eqv a.D b.D with
    | false => rfl
    | true => exact absurd (Sr.D_inj.mp ((eqv_eq (strD_noBool _ _ _) (strD_noBool _ _ _)).mp q)) h
theorem srLt_asymm {a b : Sr} (h : srLt a b = true) : srLt b a = false := by
  cases h2 : srLt b a with
  | false => rfl
  | true =>
    have := srLt_trans h h2
    rw [srLt_irrefl] at this
    exact Bool.noConfusion this
theorem srLt_ne {a b : Sr} (h : srLt a b = true) : a ≠ b := by
  rintro rfl
  rw [srLt_irrefl] at h
  exact Bool.noConfusion h
/-! ### heaps -/
abbrev Hs := List (Sr × Int)
/-- one pair, at v -/
def PrAt (K : PySem.W.Frag) (H : Hp) (v : V) (x : Sr × Int) : Prop := ∃ t b, v = .ref t ∧ SqT K H t [.ref b, .int x.2] ∧ SrAt K H b x.1
theorem PrAt.same {K : PySem.W.Frag} {H H' : Hp} {v : V} {x : Sr × Int} (h : PrAt K H v x) (s : Same H H') : PrAt K H' v x := by
  obtain ⟨t, b, e, h1, h2⟩ := h
  exact ⟨t, b, e, s.sqt h1, h2.mono s⟩
def prD (x : Sr × Int) : PyData := .tuple [x.1.D, .int x.2]
theorem PrAt.dp {K : PySem.W.Frag} {H : Hp} {v : V} {x : Sr × Int} (h : PrAt K H v x) : Dp K H v (prD x) := by
  obtain ⟨t, b, rfl, h1, h2⟩ := h
  exact .tup h1 (.cons (dp_str h2) (.cons (.int _) .nil))
/-- the pairs of a sequence -/
def PrsAt' (K : PySem.W.Frag) (H : Hp) (vs : List V) (hs : Hs) : Prop := Paired (PrAt K H) vs hs
theorem PrsAt'.same {K : PySem.W.Frag} {H H' : Hp} {vs : List V} {hs : Hs} (h : PrsAt' K H vs hs) (s : Same H H') : PrsAt' K H' vs hs := Paired.mapP h fun _ _ z => z.same s
theorem paired_len {α β : Type} {F : α → β → Prop} {l : List α} {m : List β} (h : Paired F l m) : l.length = m.length := Paired.length h
theorem paired_at {α β : Type} {F : α → β → Prop} {l : List α} {m : List β} (h : Paired F l m) {i : Nat} {a : α} (e : l[i]? = some a) : ∃ b, m[i]? = some b ∧ F a b := L2.paired_get h e
theorem paired_at' {α β : Type} {F : α → β → Prop} : ∀ {l : List α} {m : List β}, Paired F l m → ∀ {i : Nat} {b : β}, m[i]? = some b → ∃ a, l[i]? = some a ∧ F a b
  | _, _, .nil, i, b, e => by simp at e
  | _, _, .cons r t, 0, b, e => by
    simp only [List.getElem?_cons_zero, Option.some.injEq] at e
    subst e
    exact ⟨_, rfl, r⟩
  | _, _, .cons r t, i + 1, b, e => by
    simp only [List.getElem?_cons_succ] at e
    obtain ⟨a, h1, h2⟩ := paired_at' t e
    exact ⟨a, by simpa using h1, h2⟩
/-- the stripes' own addresses -/
theorem prs_split {K : PySem.W.Frag} {H : Hp} : ∀ {vs : List V} {hs : Hs}, PrsAt' K H vs hs → ∃ bs : List Addr, bs.length = hs.length ∧
    ∀ (i : Nat) (t : V) (x : Sr × Int), vs[i]? = some t → hs[i]? = some x → ∃ (u b : Addr), t = V.ref u ∧ bs[i]? = some b ∧ SqT K H u [V.ref b, V.int x.2] ∧ SrAt K H b x.1
  | _, _, .nil => ⟨[], rfl, fun i t x e _ => by simp at e⟩
  | _, _, .cons r rs => by
    obtain ⟨bs, e, k⟩ := prs_split rs
    obtain ⟨u, b, e1, e2, e3⟩ := r
    refine ⟨b :: bs, by simp [e], fun i t' x' h1 h2 => ?_⟩
    cases i with
    | zero =>
      simp only [List.getElem?_cons_zero, Option.some.injEq] at h1 h2
      subst h1 h2
      exact ⟨u, b, e1, rfl, e2, e3⟩
    | succ j =>
      simp only [List.getElem?_cons_succ] at h1 h2 ⊢
      exact k j t' x' h1 h2
/-- the heap hs stands at a -/
structure HAt (K : PySem.W.Frag) (H : Hp) (a : Addr) (hs : Hs) : Prop where
  ex : ∃ vs, SqT K H a vs ∧ PrsAt' K H vs hs
theorem HAt.same {K : PySem.W.Frag} {H H' : Hp} {a : Addr} {hs : Hs} (h : HAt K H a hs) (s : Same H H') : HAt K H' a hs := by
  obtain ⟨vs, h1, h2⟩ := h.ex
  exact ⟨vs, s.sqt h1, h2.same s⟩
def hsD (hs : Hs) : PyData := .tuple (hs.map prD)
theorem dpAll_prs {K : PySem.W.Frag} {H : Hp} : ∀ {vs : List V} {hs : Hs}, PrsAt' K H vs hs → DpAll K H vs (hs.map prD)
  | _, _, .nil => .nil
  | _, _, .cons r t => .cons r.dp (dpAll_prs t)
theorem HAt.dp {K : PySem.W.Frag} {H : Hp} {a : Addr} {hs : Hs} (h : HAt K H a hs) : Dp K H (.ref a) (hsD hs) := by
  obtain ⟨vs, h1, h2⟩ := h.ex
  exact .tup h1 (dpAll_prs h2)
/-- a stripe of breadth d -/
structure SrOk (d : Nat) (s : Sr) : Prop where
  ex : ∃ pw, mOf pw = s.m ∧ SOk pw s.c s.r
  len : s.c.length = d
/-- a heap of breadth d: stripes ascend, tints are not 0 -/
structure HsOk (d : Nat) (hs : Hs) : Prop where
  sr : ∀ x ∈ hs, SrOk d x.1
  nz : ∀ x ∈ hs, x.2 ≠ 0
  asc : (hs.map (·.1)).Pairwise fun a b => srLt a b = true
end KL
namespace KL
open PySem PySem.Spec PyProof.Rows L2 RZ StX SrtO Kw KM
/-- what a rule's list of truths has come to: all true -/
abbrev Alls (H1 : Hp) (D : Addr) (i : Nat) (H : Hp) : Prop := Lc H1 D (fun i => (List.replicate i true).map V.bl) i H
theorem alls_next {H1 H4 : Hp} {D : Addr} {i : Nat} {b : Bool} (nD : H1 D = none) (s : Same H1 H4) (e : H4 D = some (.lst ((List.replicate i true).map V.bl))) (hb : b = true) (hi : i ≤ 100000) :
    ∃ acc, H4 D = some (.lst acc) ∧ acc.length < sizeLine ∧ Alls H1 D (i + 1) (upd H4 D (.lst (acc ++ [V.bl b]))) := by
  subst hb
  refine lc_leaf nD s e (by simpa using hi) ?_
  simp [List.replicate_succ']
theorem Paired.take_ {α β : Type} {F : α → β → Prop} {l : List α} {m : List β} (h : Paired F l m) : l.length = m.length := Paired.length h
section
variable {P : Program} {w : World} {K : PySem.W.Frag} {mg : Str → Option Value} {base : Heap}
/-! ### a pair -/
def sp_is_stripe_with_tint (K : PySem.W.Frag) : Sp := fun vs H Q _ => ∃ (v : V) (x : Sr × Int) (d : Nat), vs = [v] ∧ PrAt K H v x ∧ SrOk d x.1 ∧ x.2 ≠ 0 ∧ ∀ H', Same H H' → Q (.bl true) H'
theorem ok_is_stripe_with_tint (T : Txt K mg) : FnOk P w K mg base CX0 4 T.a_is_stripe_with_tint T.d_is_stripe_with_tint ["thing"] (sp_is_stripe_with_tint K) := by
  refine T.F_is_stripe_with_tint.ok sc_is_stripe_with_tint (fun vs H Q E h => ?_) (fun cdv A outer s H vs Q E hr h => ?_)
  · obtain ⟨v, x, d, rfl, _⟩ := h
    rfl
  obtain ⟨v, x, d, rfl, hA, hO, hz, q⟩ := h
  refine ⟨_, pss_cons (ps_if (PW.pt (pw_or (pt_not (pt_val (pe_callB (call_isiK (K := K)) (by rfl) T.n_isinstance (by decide +kernel) (pa_cons (pv 0) (pa_cons (v_tuple T (by rfl)) pa_nil))))) (pw_or1 (pt_cmpR op_ne (pe_callB (call_lenK (K := K)) (by rfl) T.n_len (by decide +kernel) (pa_cons (pv 0) pa_nil)) pe_int (nomark _))))) (pss_one (ps_ret pe_bl)) pss_nil)
    (pss_cons (ps_asg (pv 0) (pg_tup (by rfl) (pgs_cons (pg_name (i := 1) sc_is_stripe_with_tint.nd rfl (Or.inl rfl)) (pgs_cons (pg_name (i := 2) sc_is_stripe_with_tint.nd rfl (Or.inl rfl)) pgs_nil))))
    (pss_one (ps_ret (pe_and (cl_is_stripe T (hr.mono (by decide)) (pa_cons (pv 1) pa_nil)) (pe_and (cl_is_integer T (hr.mono (by decide)) (pa_cons (pv 2) pa_nil)) (pe_one (pe_cmpR op_ne (pv 2) pe_int (nomark _)))))))), ?_⟩
  obtain ⟨t, b, rfl, h1, h2⟩ := hA
  obtain ⟨pw, em, hO⟩ := hO.ex
  refine ⟨_, rfl, _, _, _, _, true, rfl, ClsV.ty _, ty_tup h1, kit_ty (by decide +kernel), true, rfl, iteF ?_⟩
  refine ⟨_, rfl, t, _, rfl, .inr h1, rfl, _, rfl, iteF ?_⟩
  refine ⟨_, rfl, t, _, rfl, h1, rfl, _, _, rfl, _, _, rfl, rfl, ?_⟩
  have h2 : SAt K H b (mOf pw) x.1.c x.1.r := by rw [em]; exact h2
  refine ⟨_, rfl, b, pw, _, _, rfl, h2, hO, fun H1 s1 => ?_⟩
  refine ⟨true, rfl, iteT ?_⟩
  refine ⟨_, rfl, x.2, rfl, true, rfl, iteT ?_⟩
  refine ⟨_, rfl, rfl, ?_⟩
  have e : (!decide (V.int x.2 = V.int 0)) = true := by
    have : ¬ V.int x.2 = V.int 0 := fun z => hz (V.int.inj z)
    simp [this]
  rw [e]
  exact q H1 s1
theorem cl_is_stripe_with_tint {X : Cx} {p pos : Pos} {e : Expr} {es : List Expr} {t : TA} (T : Txt K mg) (hr : Room 4 X.A) (ha : PA X (e :: es) t) (hg : Gl X "is_stripe_with_tint" := by rfl)
    (he : starEach (e :: es) X.env = (false, eval e X.env) :: starEach es X.env := by rfl) (hpl : (backTo pos (starEach es X.env)).any (·.1) = false := by rfl) (hK : X.K = K := by rfl) (hmg : X.mg = mg := by rfl) :
    PE X (.Call (.Name "is_stripe_with_tint" p) (e :: es) [] pos) (tCall (sp_is_stripe_with_tint K) [] E0 t) := by
  subst hK hmg
  exact pe_call (ok_is_stripe_with_tint T) hr hg T.m_is_stripe_with_tint T.F_is_stripe_with_tint.kp T.b_is_stripe_with_tint .nil pass0 ha (by decide) he hpl
/-! ### heaps -/
def sp_is_heap (K : PySem.W.Frag) : Sp := fun vs H Q _ => ∃ (a : Addr) (hs : Hs) (d : Nat), vs = [.ref a] ∧ HAt K H a hs ∧ HsOk d hs ∧ hs.length ≤ 10000 ∧ ∀ H', Same H H' → Q (.bl true) H'
theorem asc_at {hs : Hs} {d i : Nat} {x y : Sr × Int} (h : HsOk d hs) (hx : hs[i]? = some x) (hy : hs[i + 1]? = some y) : srLt x.1 y.1 = true := by
  have p := h.asc
  have h1 : (hs.map (·.1))[i]? = some x.1 := by rw [List.getElem?_map, hx]; rfl
  have h2 : (hs.map (·.1))[i + 1]? = some y.1 := by rw [List.getElem?_map, hy]; rfl
  obtain ⟨l1, e1⟩ := List.getElem?_eq_some_iff.mp h1
  obtain ⟨l2, e2⟩ := List.getElem?_eq_some_iff.mp h2
  have := List.pairwise_iff_getElem.mp p i (i + 1) l1 l2 (Nat.lt_succ_self i)
  rw [e1, e2] at this
  exact this
theorem ok_is_heap (T : Txt K mg) : FnOk P w K mg base CX0 5 T.a_is_heap T.d_is_heap ["thing"] (sp_is_heap K) := by
  refine T.F_is_heap.ok sc_is_heap (fun vs H Q E h => ?_) (fun cdv A outer s H vs Q E hr h => ?_)
  · obtain ⟨a, hs, d, rfl, _⟩ := h
    rfl
  obtain ⟨a, hs, d, rfl, hA, hO, hlen, q⟩ := h
  refine ⟨_, pss_cons (ps_if (PW.pt (pw_or (pt_not (pt_val (pe_callB (call_isiK (K := K)) (by rfl) T.n_isinstance (by decide +kernel) (pa_cons (pv 0) (pa_cons (v_tuple T (by rfl)) pa_nil))))) (pw_or1 (pt_not (pt_val (pe_callB (cr_allK (K := K)) (by rfl) T.n_all (by decide +kernel) (pa_cons (pe_lc (own := [("item", 2)]) rfl sc_is_heap.nd (pi_tupK (K := K) (pv 0)) (blkOk_by (N := N_is_heap) (sc := defScope s_is_heap) (by decide +kernel)) (fun _ _ _ _ _ => (pg_name (i := 2) sc_is_heap.nd rfl (Or.inl rfl))) (fun _ _ _ _ _ => pts_nil) (fun _ _ _ _ _ => (cl_is_stripe_with_tint T (hr.mono (by decide)) (pa_cons (pv 2) pa_nil)))) pa_nil))))))) (pss_one (ps_ret pe_bl)) pss_nil)
    (pss_cons (ps_set (i := 1) sc_is_heap.nd rfl (Or.inr rfl) (pe_lc (own := [("stripe", 3), ("_", 4)]) (g := gTup K 2 (gCons (gName 3) (gCons (gName 4) gNil))) rfl sc_is_heap.nd (pi_tupK (K := K) (pv 0)) (blkOk_by (N := N_is_heap) (sc := defScope s_is_heap) (by decide +kernel)) (fun _ _ _ _ _ => (pg_tup (by rfl) (pgs_cons (pg_name (i := 3) sc_is_heap.nd rfl (Or.inl rfl)) (pgs_cons (pg_name (i := 4) sc_is_heap.nd rfl (Or.inl rfl)) pgs_nil)))) (fun _ _ _ _ _ => pts_nil) (fun _ _ _ _ _ => (pv 3))))
    (pss_cons (ps_if (pt_not (pt_val (pe_callB (cr_allK (K := K)) (by rfl) T.n_all (by decide +kernel) (pa_cons (pe_lc (own := [("stripe", 3)]) rfl sc_is_heap.nd (pi_listK (K := K) (pv 1)) (blkOk_by (N := N_is_heap) (sc := defScope s_is_heap) (by decide +kernel)) (fun _ _ _ _ _ => (pg_name (i := 3) sc_is_heap.nd rfl (Or.inl rfl))) (fun _ _ _ _ _ => pts_nil) (fun _ _ _ _ _ => (pe_cmpR op_eq (pe_callB (call_lenK (K := K)) (by rfl) T.n_len (by decide +kernel) (pa_cons (pe_ix (ix_tupK (K := K)) (pv 3) pe_int (fun _ _ => rfl)) pa_nil)) (pe_callB (call_lenK (K := K)) (by rfl) T.n_len (by decide +kernel) (pa_cons (pe_ix (ix_tupK (K := K)) (pe_ix (ix_listK (K := K)) (pv 1) pe_int (fun _ _ => rfl)) pe_int (fun _ _ => rfl)) pa_nil)) (nomark _)))) pa_nil)))) (pss_one (ps_ret pe_bl)) pss_nil)
    (pss_one (ps_ret (pe_callB (cr_allK (K := K)) (by rfl) T.n_all (by decide +kernel) (pa_cons (pe_lc (own := [("before", 5), ("behind", 6)]) (g := gTup K 2 (gCons (gName 5) (gCons (gName 6) gNil))) rfl sc_is_heap.nd (pi_zipA (by rfl) T.n_zip (pa_cons (pv 1) (pa_cons (pe_slice (sl_listK (K := K)) (pv 1) (po_some pe_int) po_none) pa_nil))) (blkOk_by (N := N_is_heap) (sc := defScope s_is_heap) (by decide +kernel)) (fun _ _ _ _ _ => (pg_tup (by rfl) (pgs_cons (pg_name (i := 5) sc_is_heap.nd rfl (Or.inl rfl)) (pgs_cons (pg_name (i := 6) sc_is_heap.nd rfl (Or.inl rfl)) pgs_nil)))) (fun _ _ _ _ _ => pts_nil) (fun _ _ _ _ _ => (pe_cmpR (op_ltD (K := K) hr.units) (pv 5) (pv 6) (nomark _)))) pa_nil)))))), ?_⟩
  obtain ⟨vs, ha, hp⟩ := hA.ex
  have hl := paired_len hp
  have lim : ∀ n : Nat, n ≤ 10000 → n < sizeLine := fun n h => Nat.lt_of_le_of_lt h (by decide)
  refine ⟨_, rfl, _, _, _, _, true, rfl, ClsV.ty _, ty_tup ha, kit_ty (by decide +kernel), true, rfl, iteF ?_⟩
  -- each is a pair
  refine ⟨_, rfl, a, rfl, ⟨_, ha⟩, fun D nD => lc_tup (xs := vs) (Alls H D) (lc_start nD rfl) (fun _ _ _ h => h.1.sqt ha) (fun i v H1 hv h => ?_) (fun H1 h => ?_)⟩
  · obtain ⟨x, hx, px⟩ := paired_at hp hv
    have hi := (List.getElem?_eq_some_iff.mp hv).1
    have hm := List.mem_of_getElem? hx
    refine ⟨rfl, yes_ (iteT ?_)⟩
    exact ⟨_, rfl, v, x, d, rfl, px.same h.1, hO.sr x hm, hO.nz x hm, fun H2 s2 => alls_next nD (h.1.trans s2) (s2 _ _ h.2) rfl (by omega)⟩
  refine ⟨D, _, rfl, SqL.of h.2, ?_⟩
  rw [all_true]
  refine ⟨true, rfl, iteF ?_⟩
  have s1 := h.1
  have ha1 := s1.sqt ha
  have hp1 := hp.same s1
  clear h
  -- the stripes
  obtain ⟨bs, bl, hb⟩ := prs_split hp1
  refine ⟨_, rfl, a, rfl, ⟨_, ha1⟩, fun D nD => lc_tup (xs := vs) (Lc H1 D fun i => (bs.take i).map V.ref) (lc_start nD rfl) (fun _ _ _ h => h.1.sqt ha1) (fun i v H2 hv h => ?_) (fun H2 h => ?_)⟩
  · obtain ⟨x, hx, px⟩ := paired_at hp1 hv
    obtain ⟨u, b, rfl, eb, h1, h2⟩ := hb i v x hv hx
    have hi := (List.getElem?_eq_some_iff.mp hv).1
    refine ⟨u, _, rfl, h.1.sqt h1, rfl, _, _, rfl, _, _, rfl, rfl, rfl, yes_ (iteT ?_)⟩
    refine ⟨_, rfl, lc_leaf nD h.1 h.2 (by simp only [List.length_map, List.length_take]; omega) ?_⟩
    rw [List.take_add_one, eb, List.map_append]
    rfl
  obtain ⟨s2, e2⟩ := lc_done h (ys := bs.map V.ref) (by
    show ((bs.take vs.length).map V.ref) = _
    rw [List.take_of_length_le (by omega)])
  clear h
  have hsx : SqL K H2 D (bs.map V.ref) := SqL.of e2
  have hb2 : ∀ (i : Nat) (b : Addr) (x : Sr × Int), bs[i]? = some b → hs[i]? = some x → SrAt K H2 b x.1 := by
    intro i b x h1 h2
    have hi := (List.getElem?_eq_some_iff.mp h1).1
    obtain ⟨u, b', _, e, _, k⟩ := hb i vs[i] x (List.getElem?_eq_getElem (by omega)) h2
    rw [h1] at e
    cases e
    exact k.mono s2
  have xat : ∀ i : Nat, i < bs.length → ∃ x, hs[i]? = some x := fun i h => ⟨_, List.getElem?_eq_getElem (by omega)⟩
  -- of one breadth
  refine ⟨_, rfl, D, rfl, ⟨_, hsx⟩, fun D3 nD3 => lc_list (xs := bs.map V.ref) (Alls H2 D3) (lc_start nD3 rfl) (fun _ _ _ h => h.1.seq hsx) (fun i v H3 hv h => ?_) (fun H3 h => ?_)⟩
  · rw [List.getElem?_map] at hv
    obtain ⟨b, hbi, rfl⟩ := Option.map_eq_some_iff.mp hv
    have hi := (List.getElem?_eq_some_iff.mp hbi).1
    obtain ⟨x, hx⟩ := xat i hi
    obtain ⟨y, hy⟩ := xat 0 (by omega)
    have hb0 : bs[0]? = some (bs[0]'(by omega)) := List.getElem?_eq_getElem (by omega)
    obtain ⟨c1, a1, a2⟩ := ((hb2 i b x hbi hx).mono h.1).at_
    obtain ⟨c2, b1, b2⟩ := ((hb2 0 _ y hb0 hy).mono h.1).at_
    refine ⟨rfl, yes_ (iteT ?_)⟩
    refine ⟨_, rfl, b, _, 1, .ref c1, rfl, rfl, a1, rfl, c1, _, rfl, .inr a2, ?_⟩
    refine ⟨_, rfl, D, _, 0, .ref _, rfl, rfl, h.1.seq hsx, (by rw [show (0 : Int) = ((0 : Nat) : Int) from rfl]; exact atI_nat (by rw [List.getElem?_map, hb0]; rfl)), ?_⟩
    refine ⟨_, _, 1, .ref c2, rfl, rfl, b1, rfl, c2, _, rfl, .inr b2, rfl, ?_⟩
    refine alls_next nD3 h.1 h.2 ?_ (by omega)
    have e1 := (hO.sr x (List.mem_of_getElem? hx)).len
    have e2 := (hO.sr y (List.mem_of_getElem? hy)).len
    rw [List.length_map, List.length_map, e1, e2]
    simp
  refine ⟨D3, _, rfl, SqL.of h.2, ?_⟩
  rw [all_true]
  refine ⟨true, rfl, iteF ?_⟩
  have s3 := h.1
  clear h
  have hsx3 := s3.seq hsx
  -- they ascend
  refine ⟨_, rfl, _, rfl, 1, rfl, D, _, rfl, hsx3, fun L nL => ?_⟩
  have cut : cutV (bs.map V.ref) (some 1) none = (bs.drop 1).map V.ref := by
    rcases Nat.lt_or_ge (bs.map V.ref).length 1 with c | c
    · have : bs = [] := List.eq_nil_of_length_eq_zero (by rw [List.length_map] at c; omega)
      subst this
      rfl
    · rw [show (1 : Int) = ((1 : Nat) : Int) from rfl, cut_from c, List.map_drop]
  rw [cut]
  have s4 := same_new nL (.lst ((bs.drop 1).map V.ref))
  have hL : SqL K (upd H3 L (.lst ((bs.drop 1).map V.ref))) L ((bs.drop 1).map V.ref) := SqL.of upd_same
  generalize upd H3 L (.lst ((bs.drop 1).map V.ref)) = H4 at s4 hL
  have hsx4 := s4.seq hsx3
  have s24 := s3.trans s4
  refine ⟨D, L, _, _, rfl, .inl ⟨hsx4, hL, fun D5 nD5 => lc_it (walk_zip (n := bs.length - 1) (xs := bs.map V.ref) (ys := (bs.drop 1).map V.ref) (by simp)) (Alls H4 D5) (lc_start nD5 rfl) (fun _ _ _ h => ⟨h.1.seq hsx4, h.1.seq hL⟩) (fun i v H5 H6 hi h y => ?_) (fun H5 h => ?_)⟩⟩
  · obtain ⟨t, vx, vy, rfl, nt, rfl, ex, ey⟩ := y
    have hi1 : i < bs.length := by omega
    have hi2 : i + 1 < bs.length := by omega
    obtain ⟨x, hx⟩ := xat i hi1
    obtain ⟨y, hy⟩ := xat (i + 1) hi2
    have b1 : bs[i]? = some bs[i] := List.getElem?_eq_getElem hi1
    have b2 : bs[i + 1]? = some bs[i + 1] := List.getElem?_eq_getElem hi2
    have ex : (bs.map V.ref)[i]? = some vx := ex
    have ey : ((bs.drop 1).map V.ref)[i]? = some vy := ey
    rw [List.getElem?_map, b1] at ex
    rw [List.getElem?_map, List.getElem?_drop, Nat.add_comm 1 i, b2] at ey
    cases ex
    cases ey
    have sT := same_new nt (.tup [V.ref bs[i], V.ref bs[i + 1]])
    have s46 := (s24.trans h.1).trans sT
    refine ⟨t, _, rfl, SqT.of upd_same, rfl, _, _, rfl, _, _, rfl, rfl, rfl, yes_ (iteT ?_)⟩
    refine ⟨_, rfl, _, rfl, x.1.D, y.1.D, dp_str ((hb2 i _ x b1 hx).mono s46), dp_str ((hb2 (i + 1) _ y b2 hy).mono s46), Sr.alike _ _, ?_, ?_, ?_⟩
    · intro z
      cases z
    · show (PyData.tuple [.int x.1.m, .tuple (x.1.c.map PyData.int), .int x.1.r]).depth ≤ 40
      have : PyData.depthAll (x.1.c.map PyData.int) = 0 := PySem.W.depth_ints _
      simp [PyData.depth, PyData.depthAll, this]
    · exact alls_next nD5 (h.1.trans sT) (sT _ _ h.2) (asc_at hO hx hy) (by omega)
  refine ⟨D5, _, rfl, SqL.of h.2, ?_⟩
  rw [all_true]
  exact q _ ((s1.trans s2).trans (s24.trans h.1))
theorem cl_is_heap {X : Cx} {p pos : Pos} {e : Expr} {es : List Expr} {t : TA} (T : Txt K mg) (hr : Room 5 X.A) (ha : PA X (e :: es) t) (hg : Gl X "is_heap" := by rfl)
    (he : starEach (e :: es) X.env = (false, eval e X.env) :: starEach es X.env := by rfl) (hpl : (backTo pos (starEach es X.env)).any (·.1) = false := by rfl) (hK : X.K = K := by rfl) (hmg : X.mg = mg := by rfl) :
    PE X (.Call (.Name "is_heap" p) (e :: es) [] pos) (tCall (sp_is_heap K) [] E0 t) := by
  subst hK hmg
  exact pe_call (ok_is_heap T) hr hg T.m_is_heap T.F_is_heap.kp T.b_is_heap .nil pass0 ha (by decide) he hpl
def sp_check_heap (K : PySem.W.Frag) : Sp := fun vs H Q _ => ∃ (a : Addr) (hs : Hs) (d : Nat), vs = [.ref a] ∧ HAt K H a hs ∧ HsOk d hs ∧ hs.length ≤ 10000 ∧ ∀ H', Same H H' → Q .non H'
theorem ok_check_heap (T : Txt K mg) : FnOk P w K mg base CX0 6 T.a_check_heap T.d_check_heap ["thing"] (sp_check_heap K) := by
  refine T.F_check_heap.ok sc_check_heap (fun vs H Q E h => ?_) (fun cdv A outer s H vs Q E hr h => ?_)
  · obtain ⟨a, hs, d, rfl, _⟩ := h
    rfl
  obtain ⟨a, hs, d, rfl, hA, hO, hlen, q⟩ := h
  refine ⟨_, pss_one (ps_if (pt_not (pt_val (cl_is_heap T (hr.mono (by decide)) (pa_cons (pv 0) pa_nil)))) (pss_one ps_never) pss_nil), ?_⟩
  exact ⟨_, rfl, a, hs, d, rfl, hA, hO, hlen, fun H1 s1 => ⟨true, rfl, iteF (q H1 s1)⟩⟩
theorem cl_check_heap {X : Cx} {p pos : Pos} {e : Expr} {es : List Expr} {t : TA} (T : Txt K mg) (hr : Room 6 X.A) (ha : PA X (e :: es) t) (hg : Gl X "check_heap" := by rfl)
    (he : starEach (e :: es) X.env = (false, eval e X.env) :: starEach es X.env := by rfl) (hpl : (backTo pos (starEach es X.env)).any (·.1) = false := by rfl) (hK : X.K = K := by rfl) (hmg : X.mg = mg := by rfl) :
    PE X (.Call (.Name "check_heap" p) (e :: es) [] pos) (tCall (sp_check_heap K) [] E0 t) := by
  subst hK hmg
  exact pe_call (ok_check_heap T) hr hg T.m_check_heap T.F_check_heap.kp T.b_check_heap .nil pass0 ha (by decide) he hpl
def sp_has_breadth (K : PySem.W.Frag) : Sp := fun vs H Q _ => ∃ (a : Addr) (hs : Hs) (d : Nat), vs = [.ref a, .int (d : Int)] ∧ HAt K H a hs ∧ (∀ x ∈ hs, SrOk d x.1) ∧ hs.length ≤ 10000 ∧ ∀ H', Same H H' → Q (.bl true) H'
theorem ok_has_breadth (T : Txt K mg) : FnOk P w K mg base CX0 1 T.a_has_breadth T.d_has_breadth ["heap", "breadth"] (sp_has_breadth K) := by
  refine T.F_has_breadth.ok sc_has_breadth (fun vs H Q E h => ?_) (fun cdv A outer s H vs Q E hr h => ?_)
  · obtain ⟨a, hs, d, rfl, _⟩ := h
    rfl
  obtain ⟨a, hs, d, rfl, hA, hO, hlen, q⟩ := h
  refine ⟨_, pss_one (ps_ret (pe_callB (cr_allK (K := K)) (by rfl) T.n_all (by decide +kernel) (pa_cons (pe_lc (own := [("stripe", 2), ("_", 3)]) (g := gTup K 2 (gCons (gName 2) (gCons (gName 3) gNil))) rfl sc_has_breadth.nd (pi_tupK (K := K) (pv 0)) (blkOk_by (N := N_has_breadth) (sc := defScope s_has_breadth) (by decide +kernel)) (fun _ _ _ _ _ => (pg_tup (by rfl) (pgs_cons (pg_name (i := 2) sc_has_breadth.nd rfl (Or.inl rfl)) (pgs_cons (pg_name (i := 3) sc_has_breadth.nd rfl (Or.inl rfl)) pgs_nil)))) (fun _ _ _ _ _ => pts_nil) (fun _ _ _ _ _ => (pe_cmpR op_eq (pe_callB (call_lenK (K := K)) (by rfl) T.n_len (by decide +kernel) (pa_cons (pe_ix (ix_tupK (K := K)) (pv 2) pe_int (fun _ _ => rfl)) pa_nil)) (pv 1) (nomark _)))) pa_nil))), ?_⟩
  obtain ⟨vs, ha, hp⟩ := hA.ex
  have hl := paired_len hp
  refine ⟨_, rfl, a, rfl, ⟨_, ha⟩, fun D nD => lc_tup (xs := vs) (Alls H D) (lc_start nD rfl) (fun _ _ _ h => h.1.sqt ha) (fun i v H1 hv h => ?_) (fun H1 h => ?_)⟩
  · obtain ⟨x, hx, px⟩ := paired_at hp hv
    have hi := (List.getElem?_eq_some_iff.mp hv).1
    obtain ⟨u, b, rfl, h1, h2⟩ := px.same h.1
    obtain ⟨c, a1, a2⟩ := h2.at_
    refine ⟨u, _, rfl, h1, rfl, _, _, rfl, _, _, rfl, rfl, rfl, yes_ (iteT ?_)⟩
    refine ⟨_, rfl, b, _, 1, .ref c, rfl, rfl, a1, rfl, c, _, rfl, .inr a2, _, rfl, rfl, ?_⟩
    refine alls_next nD h.1 h.2 ?_ (by omega)
    rw [List.length_map, (hO x (List.mem_of_getElem? hx)).len]
    simp
  refine ⟨D, _, rfl, SqL.of h.2, ?_⟩
  rw [all_true]
  exact q _ h.1
theorem cl_has_breadth {X : Cx} {p pos : Pos} {e : Expr} {es : List Expr} {t : TA} (T : Txt K mg) (hr : Room 1 X.A) (ha : PA X (e :: es) t) (hg : Gl X "has_breadth" := by rfl)
    (he : starEach (e :: es) X.env = (false, eval e X.env) :: starEach es X.env := by rfl) (hpl : (backTo pos (starEach es X.env)).any (·.1) = false := by rfl) (hK : X.K = K := by rfl) (hmg : X.mg = mg := by rfl) :
    PE X (.Call (.Name "has_breadth" p) (e :: es) [] pos) (tCall (sp_has_breadth K) [] E0 t) := by
  subst hK hmg
  exact pe_call (ok_has_breadth T) hr hg T.m_has_breadth T.F_has_breadth.kp T.b_has_breadth .nil pass0 ha (by decide) he hpl
/-! ### tints -/
def onS (s : Sr) (ys : List Int) : Bool := decide ((dotI s.c ys - s.r) % (s.m : Int) = 0)
def tintL (hs : Hs) (ys : List Int) : List Int := (hs.filter fun x => onS x.1 ys).map (·.2)
def tintOf (hs : Hs) (ys : List Int) : Int := (tintL hs ys).sum
theorem tintL_take {hs : Hs} {ys : List Int} {i : Nat} {x : Sr × Int} (h : hs[i]? = some x) : tintL (hs.take (i + 1)) ys = if onS x.1 ys = true then tintL (hs.take i) ys ++ [x.2] else tintL (hs.take i) ys := by
  unfold tintL
  rw [List.take_add_one, h, List.filter_append, List.map_append]
  by_cases c : onS x.1 ys = true <;> simp [c]
def sp_tint_on (K : PySem.W.Frag) : Sp := fun vs H Q _ => ∃ (a b : Addr) (hs : Hs) (d : Nat) (ys : List Int), vs = [.ref a, .ref b] ∧ HAt K H a hs ∧ (∀ x ∈ hs, SrOk d x.1) ∧ hs.length ≤ 10000 ∧ SqT K H b (ys.map V.int) ∧ ys.length = d ∧ d ≤ 3 ∧ (∀ y ∈ ys, Bd 2000 y) ∧
  ∀ H', Same H H' → Q (.int (tintOf hs ys)) H'
theorem ok_tint_on (T : Txt K mg) : FnOk P w K mg base CX0 3 T.a_tint_on T.d_tint_on ["heap", "cell"] (sp_tint_on K) := by
  refine T.F_tint_on.ok sc_tint_on (fun vs H Q E h => ?_) (fun cdv A outer s H vs Q E hr h => ?_)
  · obtain ⟨a, b, hs, d, ys, rfl, _⟩ := h
    rfl
  obtain ⟨a, b, hs, d, ys, rfl, hA, hO, hlen, hb, yl, d3, yb, q⟩ := h
  refine ⟨_, pss_one (ps_ret (pe_callB (cr_sumK (K := K)) (by rfl) T.n_sum (by decide +kernel) (pa_cons (pe_lc (own := [("stripe", 2), ("tint", 3)]) (g := gTup K 2 (gCons (gName 2) (gCons (gName 3) gNil))) rfl sc_tint_on.nd (pi_tupK (K := K) (pv 0)) (blkOk_by (N := N_tint_on) (sc := defScope s_tint_on) (by decide +kernel)) (fun _ _ _ _ _ => (pg_tup (by rfl) (pgs_cons (pg_name (i := 2) sc_tint_on.nd rfl (Or.inl rfl)) (pgs_cons (pg_name (i := 3) sc_tint_on.nd rfl (Or.inl rfl)) pgs_nil)))) (fun _ _ _ _ _ => (pts_one (pt_val (cl_lies_on T (hr.mono (by decide)) (pa_cons (pv 2) (pa_cons (pv 1) pa_nil)))))) (fun _ _ _ _ _ => (pv 3))) pa_nil))), ?_⟩
  obtain ⟨vs, ha, hp⟩ := hA.ex
  have hl := paired_len hp
  refine ⟨_, rfl, a, rfl, ⟨_, ha⟩, fun D nD => lc_tup (xs := vs) (Lc H D fun i => (tintL (hs.take i) ys).map V.int) (lc_start nD rfl) (fun _ _ _ h => h.1.sqt ha) (fun i v H1 hv h => ?_) (fun H1 h => ?_)⟩
  · obtain ⟨x, hx, px⟩ := paired_at hp hv
    have hi := (List.getElem?_eq_some_iff.mp hv).1
    obtain ⟨u, bb, rfl, h1, h2⟩ := px.same h.1
    have hx' := hO x (List.mem_of_getElem? hx)
    obtain ⟨pw, em, hS⟩ := hx'.ex
    have tl := tintL_take (ys := ys) hx
    have tlen : (tintL (hs.take i) ys).length ≤ i := by
      unfold tintL
      rw [List.length_map]
      refine Nat.le_trans (List.length_filter_le _ _) ?_
      rw [List.length_take]
      exact Nat.min_le_left _ _
    refine ⟨u, _, rfl, h1, rfl, _, _, rfl, _, _, rfl, rfl, rfl, ?_⟩
    refine ⟨_, rfl, _, rfl, bb, b, x.1.m, x.1.c, ys, x.1.r, rfl, h2, h.1.sqt hb, by rw [hx'.len, yl], by rw [hx'.len]; exact d3, by rw [← em]; exact mOf_pos hS.per.ok, hS.bd, yb, fun H2 s2 => ⟨_, rfl, ?_⟩⟩
    refine ite2 (fun c => ?_) (fun c => ?_)
    · rw [if_pos (show onS x.1 ys = true from c)] at tl
      refine ⟨_, rfl, lc_leaf nD (h.1.trans s2) (s2 _ _ h.2) (by simp only [List.length_map]; omega) ?_⟩
      show (tintL (hs.take (i + 1)) ys).map V.int = _
      rw [tl, List.map_append]
      rfl
    · rw [if_neg (show ¬ onS x.1 ys = true from c)] at tl
      refine lc_skip (h.1.trans s2) (s2 _ _ h.2) ?_
      show (tintL (hs.take (i + 1)) ys).map V.int = _
      rw [tl]
  obtain ⟨s1, e1⟩ := lc_done h (ys := (tintL hs ys).map V.int) (by
    show (tintL (hs.take vs.length) ys).map V.int = _
    rw [List.take_of_length_le (by omega)])
  exact ⟨D, _, rfl, SqL.of e1, q H1 s1⟩
theorem cl_tint_on {X : Cx} {p pos : Pos} {e : Expr} {es : List Expr} {t : TA} (T : Txt K mg) (hr : Room 3 X.A) (ha : PA X (e :: es) t) (hg : Gl X "tint_on" := by rfl)
    (he : starEach (e :: es) X.env = (false, eval e X.env) :: starEach es X.env := by rfl) (hpl : (backTo pos (starEach es X.env)).any (·.1) = false := by rfl) (hK : X.K = K := by rfl) (hmg : X.mg = mg := by rfl) :
    PE X (.Call (.Name "tint_on" p) (e :: es) [] pos) (tCall (sp_tint_on K) [] E0 t) := by
  subst hK hmg
  exact pe_call (ok_tint_on T) hr hg T.m_tint_on T.F_tint_on.kp T.b_tint_on .nil pass0 ha (by decide) he hpl
def sp_check_cell (K : PySem.W.Frag) : Sp := fun vs H Q _ => ∃ (a b : Addr) (hs : Hs) (d : Nat) (ys : List Int), vs = [.ref a, .ref b] ∧ HAt K H a hs ∧ HsOk d hs ∧ hs.length ≤ 10000 ∧ SqT K H b (ys.map V.int) ∧ ys.length = d ∧ 1 ≤ d ∧ d ≤ 3 ∧ ∀ H', Same H H' → Q .non H'
theorem ok_check_cell (T : Txt K mg) : FnOk P w K mg base CX0 3 T.a_check_cell T.d_check_cell ["heap", "thing"] (sp_check_cell K) := by
  refine T.F_check_cell.ok sc_check_cell (fun vs H Q E h => ?_) (fun cdv A outer s H vs Q E hr h => ?_)
  · obtain ⟨a, b, hs, d, ys, rfl, _⟩ := h
    rfl
  obtain ⟨a, b, hs, d, ys, rfl, hA, hO, hlen, hb, yl, d1, d3, q⟩ := h
  refine ⟨_, pss_one (ps_if (PW.pt (pw_or (pt_not (pt_val (cl_is_cell T (hr.mono (by decide)) (pa_cons (pv 1) pa_nil)))) (pw_or1 (pt_not (pt_val (cl_has_breadth T (hr.mono (by decide)) (pa_cons (pv 0) (pa_cons (pe_callB (call_lenK (K := K)) (by rfl) T.n_len (by decide +kernel) (pa_cons (pv 1) pa_nil)) pa_nil)))))))) (pss_one ps_never) pss_nil), ?_⟩
  refine ⟨_, rfl, b, ys, rfl, hb, by omega, by omega, fun H2 s2 => ⟨true, rfl, iteF ?_⟩⟩
  refine ⟨_, rfl, _, rfl, b, _, rfl, .inr (s2.sqt hb), a, hs, d, ?_, hA.same s2, hO.sr, hlen, fun H3 s3 => ⟨true, rfl, iteF ?_⟩⟩
  · rw [List.length_map, yl]
    rfl
  exact q _ (s2.trans s3)
theorem cl_check_cell {X : Cx} {p pos : Pos} {e : Expr} {es : List Expr} {t : TA} (T : Txt K mg) (hr : Room 3 X.A) (ha : PA X (e :: es) t) (hg : Gl X "check_cell" := by rfl)
    (he : starEach (e :: es) X.env = (false, eval e X.env) :: starEach es X.env := by rfl) (hpl : (backTo pos (starEach es X.env)).any (·.1) = false := by rfl) (hK : X.K = K := by rfl) (hmg : X.mg = mg := by rfl) :
    PE X (.Call (.Name "check_cell" p) (e :: es) [] pos) (tCall (sp_check_cell K) [] E0 t) := by
  subst hK hmg
  exact pe_call (ok_check_cell T) hr hg T.m_check_cell T.F_check_cell.kp T.b_check_cell .nil pass0 ha (by decide) he hpl
def sp_tint_at (K : PySem.W.Frag) : Sp := fun vs H Q _ => ∃ (a b : Addr) (hs : Hs) (d : Nat) (ys : List Int), vs = [.ref a, .ref b] ∧ HAt K H a hs ∧ HsOk d hs ∧ hs.length ≤ 10000 ∧ SqT K H b (ys.map V.int) ∧ ys.length = d ∧ 1 ≤ d ∧ d ≤ 3 ∧ (∀ y ∈ ys, Bd 2000 y) ∧
  ∀ H', Same H H' → Q (.int (tintOf hs ys)) H'
theorem ok_tint_at (T : Txt K mg) : FnOk P w K mg base CX0 7 T.a_tint_at T.d_tint_at ["heap", "cell"] (sp_tint_at K) := by
  refine T.F_tint_at.ok sc_tint_at (fun vs H Q E h => ?_) (fun cdv A outer s H vs Q E hr h => ?_)
  · obtain ⟨a, b, hs, d, ys, rfl, _⟩ := h
    rfl
  obtain ⟨a, b, hs, d, ys, rfl, hA, hO, hlen, hb, yl, d1, d3, yb, q⟩ := h
  refine ⟨_, pss_cons (ps_expr (cl_check_heap T (hr.mono (by decide)) (pa_cons (pv 0) pa_nil)))
    (pss_cons (ps_expr (cl_check_cell T (hr.mono (by decide)) (pa_cons (pv 0) (pa_cons (pv 1) pa_nil))))
    (pss_one (ps_ret (cl_tint_on T (hr.mono (by decide)) (pa_cons (pv 0) (pa_cons (pv 1) pa_nil)))))), ?_⟩
  refine ⟨_, rfl, a, hs, d, rfl, hA, hO, hlen, fun H1 s1 => ?_⟩
  refine ⟨_, rfl, _, rfl, a, b, hs, d, ys, rfl, hA.same s1, hO, hlen, s1.sqt hb, yl, d1, d3, fun H3 s3 => ?_⟩
  have s13 := s1.trans s3
  exact ⟨_, rfl, _, rfl, a, b, hs, d, ys, rfl, hA.same s13, hO.sr, hlen, s13.sqt hb, yl, d3, yb, fun H4 s4 => q H4 (s13.trans s4)⟩
theorem cl_tint_at {X : Cx} {p pos : Pos} {e : Expr} {es : List Expr} {t : TA} (T : Txt K mg) (hr : Room 7 X.A) (ha : PA X (e :: es) t) (hg : Gl X "tint_at" := by rfl)
    (he : starEach (e :: es) X.env = (false, eval e X.env) :: starEach es X.env := by rfl) (hpl : (backTo pos (starEach es X.env)).any (·.1) = false := by rfl) (hK : X.K = K := by rfl) (hmg : X.mg = mg := by rfl) :
    PE X (.Call (.Name "tint_at" p) (e :: es) [] pos) (tCall (sp_tint_at K) [] E0 t) := by
  subst hK hmg
  exact pe_call (ok_tint_at T) hr hg T.m_tint_at T.F_tint_at.kp T.b_tint_at .nil pass0 ha (by decide) he hpl
end
end KL
namespace KL
open PySem PySem.Spec PyProof.Rows L2 RZ StX SrtO Kw KM
/-! ### tables: dicts from stripes to tints -/
/-- one entry of a dict is the stripe and the tint -/
def TEnt (K : PySem.W.Frag) (H : Hp) (p : NK × Addr × V) (x : Sr × Int) : Prop := p.1 = x.1.K ∧ p.2.2 = .int x.2 ∧ SrAt K H p.2.1 x.1
structure TabAt (K : PySem.W.Frag) (w : World) (H : Hp) (a : Addr) (ks : Ents) (hs : Hs) : Prop where
  at_ : Rd H a (DicN w a ks)
  rel : Paired (TEnt K H) ks hs
theorem tent_keys {K : PySem.W.Frag} {H : Hp} {ks : Ents} {hs : Hs} (h : Paired (TEnt K H) ks hs) : KeysN K H ks := by
  induction h with
  | nil => intro p hp; exact absurd hp List.not_mem_nil
  | cons r t ih =>
    intro p hp
    rcases List.mem_cons.mp hp with rfl | hp
    · obtain ⟨e1, _, e3⟩ := r
      rw [e1]
      exact e3.key
    · exact ih p hp
theorem TabAt.dn {K : PySem.W.Frag} {w : World} {H : Hp} {a : Addr} {ks : Ents} {hs : Hs} (h : TabAt K w H a ks hs) : DN K w H a ks := ⟨h.at_, tent_keys h.rel⟩
/-- what a table holds -/
def getH (hs : Hs) (s : Sr) : Option Int := (hs.find? fun x => decide (x.1 = s)).map (·.2)
def putH (hs : Hs) (s : Sr) (t : Int) : Hs := if (getH hs s).isSome then hs.map (fun x => if x.1 = s then (x.1, t) else x) else hs ++ [(s, t)]
theorem tent_val {K : PySem.W.Frag} {H : Hp} {ks : Ents} {hs : Hs} (h : Paired (TEnt K H) ks hs) (s : Sr) : valN ks s.K = (getH hs s).map V.int := by
  induction h with
  | nil => rfl
  | @cons p x ps xs r t ih =>
    obtain ⟨e1, e2, _⟩ := r
    by_cases c : x.1 = s
    · rw [valN_cons_eq (by rw [e1, c])]
      unfold getH
      rw [List.find?_cons, decide_eq_true c, e2]
      rfl
    · rw [valN_cons_ne (by rw [e1]; exact fun z => c (Sr.K_inj z)), ih]
      unfold getH
      rw [List.find?_cons, decide_eq_false c]
theorem tent_put {K : PySem.W.Frag} {H : Hp} {ks : Ents} {hs : Hs} (h : Paired (TEnt K H) ks hs) {b : Addr} {s : Sr} (t : Int) (hb : SrAt K H b s) : Paired (TEnt K H) (putN ks s.K b (.int t)) (putH hs s t) := by
  unfold putN putH
  rw [tent_val h, Option.isSome_map]
  split
  · next c0 =>
    clear hb c0
    induction h with
    | nil => exact .nil
    | @cons p x ps xs r q ih =>
      rw [List.map_cons, List.map_cons]
      refine .cons ?_ ih
      obtain ⟨e1, e2, e3⟩ := r
      by_cases c : x.1 = s
      · rw [if_pos (by rw [e1, c]), if_pos c]
        exact ⟨e1, rfl, e3⟩
      · rw [if_neg (by rw [e1]; exact fun z => c (Sr.K_inj z)), if_neg c]
        exact ⟨e1, e2, e3⟩
  · exact Paired.snoc h ⟨rfl, rfl, hb⟩
theorem getH_none {hs : Hs} {s : Sr} : getH hs s = none ↔ s ∉ hs.map (·.1) := by
  unfold getH
  rw [Option.map_eq_none_iff, List.find?_eq_none]
  constructor
  · intro h hm
    obtain ⟨x, hx, e⟩ := List.mem_map.mp hm
    exact h x hx (decide_eq_true e)
  · intro h x hx e
    exact h (List.mem_map.mpr ⟨x, hx, of_decide_eq_true e⟩)
theorem putH_new {hs : Hs} {s : Sr} {t : Int} (h : getH hs s = none) : putH hs s t = hs ++ [(s, t)] := by
  unfold putH
  rw [h]
  rfl
theorem putH_old {hs : Hs} {s : Sr} {t u : Int} (h : getH hs s = some u) : putH hs s t = hs.map (fun x => if x.1 = s then (x.1, t) else x) := by
  unfold putH
  rw [h]
  rfl
theorem putH_keys (hs : Hs) (s : Sr) (t : Int) : (putH hs s t).map (·.1) = if (getH hs s).isSome then hs.map (·.1) else hs.map (·.1) ++ [s] := by
  unfold putH
  split
  · rw [List.map_map]
    refine List.map_congr_left fun x _ => ?_
    show (if x.1 = s then (x.1, t) else x).1 = x.1
    split <;> rfl
  · rw [List.map_append]
    rfl
theorem putH_nodup {hs : Hs} (h : (hs.map (·.1)).Nodup) (s : Sr) (t : Int) : ((putH hs s t).map (·.1)).Nodup := by
  rw [putH_keys]
  split
  · exact h
  · next c =>
    have n : getH hs s = none := by
      cases e : getH hs s with
      | none => rfl
      | some u => rw [e] at c; exact absurd rfl c
    exact L2.nd_snoc h (getH_none.mp n)
theorem getH_at {hs : Hs} (nd : (hs.map (·.1)).Nodup) {x : Sr × Int} (h : x ∈ hs) : getH hs x.1 = some x.2 := by
  induction hs with
  | nil => exact absurd h List.not_mem_nil
  | cons y r ih =>
    rw [List.map_cons, List.nodup_cons] at nd
    unfold getH
    rcases List.mem_cons.mp h with rfl | h
    · rw [List.find?_cons, decide_eq_true rfl]
      rfl
    · have ne : ¬ y.1 = x.1 := fun e => nd.1 (e ▸ List.mem_map_of_mem h)
      rw [List.find?_cons, decide_eq_false ne]
      exact ih nd.2 h
theorem TabAt.same {K : PySem.W.Frag} {w : World} {H H' : Hp} {a : Addr} {ks : Ents} {hs : Hs} (h : TabAt K w H a ks hs) (s : Same H H') : TabAt K w H' a ks hs := by
  refine ⟨?_, Paired.mapP h.rel fun _ _ z => ⟨z.1, z.2.1, z.2.2.mono s⟩⟩
  rcases h.at_ with e | ⟨o, e⟩
  · exact .inl (s _ _ e)
  · exact .inr ⟨o, s _ _ e⟩
/-! ### sorted -/
theorem prD_lt {x y : Sr × Int} (h : x.1 ≠ y.1) : PySem.W.dataLt (prD x) (prD y) = srLt x.1 y.1 := by
  unfold prD
  rw [PySem.W.dataLt_pair (Sr.alike _ _) (by simp [PySem.W.alike]), if_neg]
  · rfl
  · intro e
    exact h (Sr.D_inj.mp ((eqv_eq (strD_noBool _ _ _) (strD_noBool _ _ _)).mp e))
/-- pairs sorted as Python does it -/
def prLe (x y : Sr × Int) : Bool := PySem.W.dataLe false prD x y
def sortHs (hs : Hs) : Hs := hs.mergeSort prLe
theorem sortHs_perm (hs : Hs) : (sortHs hs).Perm hs := List.mergeSort_perm _ _
theorem prLe_total : PySem.W.TotalLe prLe := PySem.W.sortLe_total _ false _
theorem sortHs_asc {hs : Hs} (nd : (hs.map (·.1)).Nodup) : ((sortHs hs).map (·.1)).Pairwise fun a b => srLt a b = true := by
  have p : (sortHs hs).Pairwise fun a b => prLe a b = true := PySem.W.sort_pairwise prLe_total hs
  have nd2 : ((sortHs hs).map (·.1)).Nodup := ((sortHs_perm hs).map (·.1)).nodup_iff.mpr nd
  rw [List.pairwise_map]
  have q : (sortHs hs).Pairwise fun a b => a.1 ≠ b.1 := List.pairwise_map.mp nd2
  refine (p.and q).imp fun {x y} h => ?_
  obtain ⟨h1, h2⟩ := h
  have h1 : (!PySem.W.dataLt (prD y) (prD x)) = true := h1
  rw [prD_lt (Ne.symm h2), Bool.not_eq_true'] at h1
  exact srLt_total (Ne.symm h2) h1
theorem prD_alike (x y : Sr × Int) : PySem.W.alike (prD x) (prD y) = true := by
  show PySem.W.alikeAll [x.1.D, .int x.2] [y.1.D, .int y.2] = true
  simp [PySem.W.alikeAll, Sr.alike, PySem.W.alike]
theorem prD_depth (x : Sr × Int) : (prD x).depth ≤ 40 := by
  have : PyData.depthAll (x.1.c.map PyData.int) = 0 := PySem.W.depth_ints _
  simp [prD, Sr.D, strD, PyData.depth, PyData.depthAll, this]
/-- sorted(xs) of pairs -/
theorem sort_prs {K : PySem.W.Frag} {H : Hp} {Q : VK} {a : Addr} {vs : List V} {hs : Hs} (ha : SqL K H a vs) (hp : PrsAt' K H vs hs) (hz : hs.length ≤ sizeLine)
    (q : ∀ (p : Addr) (ws : List V) (H' : Hp), Same H H' → H p = none → H' p = some (.lst ws) → PrsAt' K H' ws (sortHs hs) → Q (.ref p) H') : rSortD K [.ref a] H Q := by
  -- the values with what they are
  obtain ⟨ps, e1, e2, hps⟩ : ∃ ps : List (V × (Sr × Int)), ps.map (·.1) = vs ∧ ps.map (·.2) = hs ∧ ∀ p ∈ ps, PrAt K H p.1 p.2 := by
    clear ha hz q
    induction hp with
    | nil => exact ⟨[], rfl, rfl, fun p h => absurd h List.not_mem_nil⟩
    | @cons v x vs xs r t ih =>
      obtain ⟨ps, i1, i2, i3⟩ := ih
      refine ⟨(v, x) :: ps, by rw [List.map_cons, i1], by rw [List.map_cons, i2], fun p hp => ?_⟩
      rcases List.mem_cons.mp hp with rfl | hp
      · exact r
      · exact i3 p hp
  refine ⟨a, ps.map fun p => (p.1, prD p.2), rfl, ?_, ?_, ?_, ?_, ?_, ?_, fun p np => ?_⟩
  · rw [List.map_map]
    show SqL K H a (ps.map (·.1))
    rw [e1]
    exact ha
  · intro z hz
    obtain ⟨p, hp, rfl⟩ := List.mem_map.mp hz
    exact (hps p hp).dp
  · rw [List.map_map]
    exact PySem.W.AllAlike.of (enc := fun p : V × (Sr × Int) => prD p.2) fun p p' => prD_alike _ _
  · rw [List.map_map]
    exact PySem.W.Sortable.tuples (enc := fun p : V × (Sr × Int) => prD p.2) fun p => ⟨_, _, rfl⟩
  · intro z hz
    obtain ⟨p, hp, rfl⟩ := List.mem_map.mp hz
    exact prD_depth _
  · rw [List.length_map, ← List.length_map (f := (·.2)), e2]
    exact hz
  · have m1 : ((ps.map fun p => (p.1, prD p.2)).mergeSort (PySem.W.dataLe false (·.2))) = (ps.mergeSort fun p q => prLe p.2 q.2).map fun p => (p.1, prD p.2) :=
      (PySem.W.sort_maps (r := fun p q : V × (Sr × Int) => prLe p.2 q.2) (fun p : V × (Sr × Int) => (p.1, prD p.2)) fun _ _ _ _ => rfl).symm
    have m2 : (ps.mergeSort fun p q => prLe p.2 q.2).map (·.2) = sortHs hs := by
      rw [PySem.W.sort_maps (r := fun p q : V × (Sr × Int) => prLe p.2 q.2) (s := prLe) (fun p : V × (Sr × Int) => p.2) fun _ _ _ _ => rfl, e2]
      rfl
    rw [m1, List.map_map]
    have s := same_new np (.lst ((ps.mergeSort fun p q => prLe p.2 q.2).map (·.1)))
    refine q p _ _ s np upd_same ?_
    rw [← m2]
    have all : ∀ z ∈ ps.mergeSort fun p q => prLe p.2 q.2, PrAt K H z.1 z.2 := fun z hz => hps z ((List.mergeSort_perm _ _).mem_iff.mp hz)
    generalize (ps.mergeSort fun p q => prLe p.2 q.2) = l at all s
    clear m1 m2
    refine PrsAt'.same ?_ s
    clear s
    induction l with
    | nil => exact .nil
    | cons z r ih => exact .cons (all z List.mem_cons_self) (ih fun y hy => all y (List.mem_cons_of_mem _ hy))
end KL
namespace KL
open PySem PySem.Spec PyProof.Rows L2 RZ StX SrtO Kw KM
theorem SAt.updL {K : PySem.W.Frag} {H : Hp} {a p : Addr} {m : Nat} {cs : List Int} {r : Int} {ys zs : List V} (e : H p = some (.lst ys)) (h : SAt K H a m cs r) : SAt K (upd H p (.lst zs)) a m cs r := by
  obtain ⟨c, h1, h2⟩ := h.at_
  exact ⟨c, sqt_updL e h1, sqt_updL e h2⟩
theorem PrAt.updL {K : PySem.W.Frag} {H : Hp} {v : V} {x : Sr × Int} {p : Addr} {ys zs : List V} (e : H p = some (.lst ys)) (h : PrAt K H v x) : PrAt K (upd H p (.lst zs)) v x := by
  obtain ⟨t, b, ev, h1, h2⟩ := h
  exact ⟨t, b, ev, sqt_updL e h1, SAt.updL e h2⟩
theorem PrsAt'.updL {K : PySem.W.Frag} {H : Hp} {vs : List V} {hs : Hs} {p : Addr} {ys zs : List V} (e : H p = some (.lst ys)) (h : PrsAt' K H vs hs) : PrsAt' K (upd H p (.lst zs)) vs hs := Paired.mapP h fun _ _ z => z.updL e
/-- a dict is locked, and unlocked again -/
theorem sqt_lock {K : PySem.W.Frag} {H : Hp} {a b : Addr} {xs : List V} {φ : Heap → Prop} {o : HO} (e : H a = some (.ext φ)) (h : SqT K H b xs) : SqT K (upd H a o) b xs := by
  rcases h with (h | ⟨q, h⟩) | h
  · exact .inl (.inl (by rw [upd_ne (ne_of h e (by intro z; cases z))]; exact h))
  · exact .inl (.inr ⟨q, by rw [upd_ne (ne_of h e (by intro z; cases z))]; exact h⟩)
  · exact .inr h
theorem sat_lock {K : PySem.W.Frag} {H : Hp} {a b : Addr} {m : Nat} {cs : List Int} {r : Int} {φ : Heap → Prop} {o : HO} (e : H a = some (.ext φ)) (h : SAt K H b m cs r) : SAt K (upd H a o) b m cs r := by
  obtain ⟨c, h1, h2⟩ := h.at_
  exact ⟨c, sqt_lock e h1, sqt_lock e h2⟩
theorem same_unlock {H H' : Hp} {a : Addr} {u o : HO} (e : H a = some u) (s : Same (upd H a o) H') : Same H (upd H' a u) := by
  intro b x q
  by_cases c : b = a
  · subst c
    rw [e] at q
    cases q
    exact upd_same
  · rw [upd_ne c]
    exact s b x (by rw [upd_ne c]; exact q)
theorem sqt_frz {K : PySem.W.Frag} {H : Hp} {a b : Addr} {xs : List V} {ob : Obj} {φ : Heap → Prop} {o : HO} (e : H a = some (.frz ob (.ext φ))) (h : SqT K H b xs) : SqT K (upd H a o) b xs := by
  rcases h with (h | ⟨q, h⟩) | h
  · exact .inl (.inl (by rw [upd_ne (ne_of h e (by intro z; cases z))]; exact h))
  · exact .inl (.inr ⟨q, by rw [upd_ne (ne_of h e (by intro z; cases z))]; exact h⟩)
  · exact .inr h
theorem PrAt.frz {K : PySem.W.Frag} {H : Hp} {a : Addr} {v : V} {x : Sr × Int} {ob : Obj} {φ : Heap → Prop} {o : HO} (e : H a = some (.frz ob (.ext φ))) (h : PrAt K H v x) : PrAt K (upd H a o) v x := by
  obtain ⟨t, b, ev, h1, h2⟩ := h
  obtain ⟨c, k1, k2⟩ := h2.at_
  exact ⟨t, b, ev, sqt_frz e h1, c, sqt_frz e k1, sqt_frz e k2⟩
/-- [(s, d[s]) for s in d] -/
theorem lock_prs {K : PySem.W.Frag} {w : World} {σ : L2.St} {H : Hp} {Q : VK} {di si : Nat} {vs : List Nat} {a : Addr} {ks : Ents} {hs : Hs} (ha : H a = some (DicN w a ks)) (rel : Paired (TEnt K H) ks hs) (nd : (hs.map (·.1)).Nodup) (hz : hs.length ≤ 10000)
    (h0 : σ[di]? = some (some (.ref a))) (h1 : ∀ v, ((wipe σ vs).set si (some v))[di]? = some (some (.ref a))) (h2 : ∀ v, wipe ((wipe σ vs).set si (some v)) vs = wipe σ vs) (h3 : ∀ v, ((wipe σ vs).set si (some v))[si]? = some (some v))
    (q : ∀ (D : Addr) (ws : List V) (H' : Hp), Same H H' → H D = none → H' D = some (.lst ws) → PrsAt' K H' ws hs → Q (.ref D) H') :
    tLockE (tLc (iKeysN w (tVar di)) (gName si) tYes (tTup (tCons (tVar si) (tCons (tDGetN K w (tVar di) (tVar si)) tNil))) vs) σ H Q := by
  have lks : ks.length = hs.length := Paired.length rel
  refine ⟨a, _, ha, True.intro, fun od => ?_⟩
  have hl : (upd H a (.frz od (DicN w a ks))) a = some (.frz od (DicN w a ks)) := upd_same
  refine ⟨_, h0, a, od, ks, rfl, hl, fun D nD => ?_⟩
  have nDa : D ≠ a := fun e => by rw [e, hl] at nD; cases nD
  have nDH : H D = none := by rw [upd_ne nDa] at nD; exact nD
  have sr0 : ∀ (i : Nat) (p : NK × Addr × V) (x : Sr × Int), ks[i]? = some p → hs[i]? = some x → p.1 = x.1.K ∧ p.2.2 = .int x.2 ∧ SrAt K (upd H a (.frz od (DicN w a ks))) p.2.1 x.1 := by
    intro i p x hp hx
    obtain ⟨y, hy, e1, e2, e3⟩ := paired_at rel hp
    rw [hx] at hy
    cases hy
    exact ⟨e1, e2, sat_lock ha e3⟩
  have kl : KeysN K (upd H a (.frz od (DicN w a ks))) ks := by
    intro p hp
    obtain ⟨i, hi, e⟩ := List.mem_iff_getElem.mp hp
    obtain ⟨x, hx, _⟩ := paired_at rel (show ks[i]? = some p by rw [List.getElem?_eq_getElem hi, e])
    obtain ⟨e1, _, e3⟩ := sr0 i p x (by rw [List.getElem?_eq_getElem hi, e]) hx
    rw [e1]
    exact e3.key
  refine lc_it (walk_keysN (w := w) (d := a) (o := od) (ks := ks)) (fun i H' => Same (upd H a (.frz od (DicN w a ks))) H' ∧ ∃ ws, H' D = some (.lst ws) ∧ ws.length = i ∧ PrsAt' K H' ws (hs.take i))
    ⟨same_new nD _, [], upd_same, rfl, .nil⟩ (fun i H' _ h => h.1 _ _ hl) (fun i x H1 H2 hi h y => ?_) (fun H' h => ?_)
  · obtain ⟨s1, ws, e1, e2, e3⟩ := h
    obtain ⟨rfl, p, hp, rfl⟩ := y
    obtain ⟨xx, hx⟩ : ∃ xx, hs[i]? = some xx := ⟨_, List.getElem?_eq_getElem (by omega)⟩
    obtain ⟨k1, k2, k3⟩ := sr0 i p xx hp hx
    have hm := List.mem_of_getElem? hx
    refine ⟨h2 _, yes_ (iteT ?_)⟩
    refine ⟨_, h3 _, _, h1 _, _, h3 _, a, p.2.1, ks, xx.1.K, .int xx.2, rfl, rfl, ⟨.inr ⟨od, s1 _ _ hl⟩, fun z hz => ⟨?_, (kl z hz).le⟩⟩, SrAt.key (s := xx.1) (k3.mono s1), ?_, (by show 2 ≤ sizeLine; decide), fun T nT => ?_⟩
    · -- the keys, in the grown heap
      obtain ⟨j, hj, e⟩ := List.mem_iff_getElem.mp hz
      obtain ⟨x', hx', _⟩ := paired_at rel (show ks[j]? = some z by rw [List.getElem?_eq_getElem hj, e])
      obtain ⟨f1, _, f3⟩ := sr0 j z x' (by rw [List.getElem?_eq_getElem hj, e]) hx'
      rw [f1]
      exact (SrAt.key (s := x'.1) (f3.mono s1)).dp
    · rw [tent_val rel, getH_at nd hm]
      rfl
    · have sT := same_new nT (.tup [V.ref p.2.1, V.int xx.2])
      have eD := sT _ _ e1
      refine ⟨ws, eD, ?_, ?_, ws ++ [V.ref T], upd_same, by rw [List.length_append, e2]; rfl, ?_⟩
      · rw [e2]
        exact Nat.lt_of_lt_of_le (show i < 10000 by omega) (by decide)
      · exact same_upd2 (s1.trans sT) nD
      · rw [List.take_add_one, hx]
        refine Paired.snoc (PrsAt'.updL eD (e3.same sT)) ?_
        exact PrAt.updL eD ⟨T, p.2.1, rfl, SqT.of upd_same, (k3.mono s1).mono sT⟩
  · obtain ⟨s1, ws, e1, e2, e3⟩ := h
    rw [List.take_of_length_le (by omega)] at e3
    have hf := s1 _ _ hl
    refine ⟨hf, q D ws _ (same_unlock ha s1) nDH (by rw [upd_ne nDa]; exact e1) ?_⟩
    exact Paired.mapP e3 fun _ _ z => z.frz hf
/-- tuple(sorted([(s, d[s]) for s in d])): the heap of a table -/
theorem heap_of {K : PySem.W.Frag} {w : World} {σ : L2.St} {H : Hp} {Q : VK} {di si : Nat} {vs : List Nat} {a : Addr} {ks : Ents} {hs : Hs} (ha : H a = some (DicN w a ks)) (rel : Paired (TEnt K H) ks hs) (nd : (hs.map (·.1)).Nodup) (hz : hs.length ≤ 10000)
    (h0 : σ[di]? = some (some (.ref a))) (h1 : ∀ v, ((wipe σ vs).set si (some v))[di]? = some (some (.ref a))) (h2 : ∀ v, wipe ((wipe σ vs).set si (some v)) vs = wipe σ vs) (h3 : ∀ v, ((wipe σ vs).set si (some v))[si]? = some (some v))
    (q : ∀ (p : Addr) (H' : Hp), Same H H' → H p = none → HAt K H' p (sortHs hs) → Q (.ref p) H') :
    tCB (rTupOf K) (tCons (tCB (rSortD K) (tCons (tLockE (tLc (iKeysN w (tVar di)) (gName si) tYes (tTup (tCons (tVar si) (tCons (tDGetN K w (tVar di) (tVar si)) tNil))) vs)) tNil)) tNil) σ H Q := by
  refine lock_prs ha rel nd hz h0 h1 h2 h3 fun D ws H1 s1 nD eD hp => ?_
  refine sort_prs (SqL.of eD) hp (Nat.le_trans hz (by decide)) fun p us H2 s2 np ep hp2 => ?_
  refine ⟨p, us, rfl, .inl ⟨SqL.of ep, fun t nt => ?_⟩⟩
  have s3 := same_new nt (.tup us)
  exact q t _ ((s1.trans s2).trans s3) ((s1.trans s2).free nt) ⟨us, SqT.of upd_same, hp2.same s3⟩
end KL
namespace KL
open PySem PySem.Spec PyProof.Rows L2 RZ StX SrtO Kw KM
section
variable {P : Program} {w : World} {K : PySem.W.Frag} {mg : Str → Option Value} {base : Heap}
/-! ### the numbers times an integer -/
def sp__law_by (K : PySem.W.Frag) : Sp := fun vs H Q _ => ∃ (a : Addr) (m : Nat) (cs : List Int) (r u : Int), vs = [.ref a, .int u] ∧ SAt K H a m cs r ∧ 1 ≤ m ∧ cs.length ≤ 3 ∧ (∀ c ∈ cs, Bd 2000 c) ∧ Bd 2000 r ∧ Bd 2000 u ∧
  ∀ (p : Addr) (H' : Hp), Same H H' → SAt K H' p m (mulM m u cs) ((u * r) % (m : Int)) → Q (.ref p) H'
theorem ok__law_by (T : Txt K mg) : FnOk P w K mg base CX0 1 T.a__law_by T.d__law_by ["_law_stripe", "_law_u"] (sp__law_by K) := by
  refine T.F__law_by.ok sc__law_by (fun vs H Q E h => ?_) (fun cdv A outer s H vs Q E hr h => ?_)
  · obtain ⟨a, m, cs, r, u, rfl, _⟩ := h
    rfl
  obtain ⟨a, m, cs, r, u, rfl, hA, hm, h3, cb, rb, ub, q⟩ := h
  refine ⟨_, pss_cons (ps_asg (pv 0) (pg_tup (by rfl) (pgs_cons (pg_name (i := 2) sc__law_by.nd rfl (Or.inr rfl)) (pgs_cons (pg_name (i := 3) sc__law_by.nd rfl (Or.inl rfl)) (pgs_cons (pg_name (i := 4) sc__law_by.nd rfl (Or.inl rfl)) pgs_nil)))))
    (pss_one (ps_ret (pe_tup (pa_cons (pv 2) (pa_cons (pe_callTy call_tuple_of (by rfl) T.n_tuple (by decide +kernel) (pa_cons (pe_lc (own := [("_law_a", 5)]) rfl sc__law_by.nd (pi_tup (pv 3)) (blkOk_by (N := N__law_by) (sc := defScope s__law_by) (by decide +kernel)) (fun _ _ _ _ _ => (pg_name (i := 5) sc__law_by.nd rfl (Or.inl rfl))) (fun _ _ _ _ _ => pts_nil) (fun _ _ _ _ _ => (pe_op op_mod (pe_callTy call_int1 (by rfl) T.n_int (by decide +kernel) (pa_cons (pe_op op_mulW (pv 1) (pv 5)) pa_nil)) (pv 2)))) pa_nil)) (pa_cons (pe_op op_mod (pe_callTy call_int1 (by rfl) T.n_int (by decide +kernel) (pa_cons (pe_op op_mulW (pv 1) (pv 4)) pa_nil)) (pv 2)) pa_nil)))))), ?_⟩
  obtain ⟨c, ha, hc⟩ := hA.at_
  have m0 : (0 : Int) < (m : Int) := by omega
  refine ⟨_, rfl, a, _, rfl, ha, rfl, _, _, rfl, _, _, rfl, _, _, rfl, rfl, ?_⟩
  refine ⟨_, rfl, _, rfl, c, rfl, ⟨_, hc⟩, fun D nD => lc_tup (xs := cs.map V.int) (Lc H D fun i => ((mulM m u cs).take i).map V.int) (lc_start nD rfl) (fun _ _ _ h => h.1.sqt hc) (fun i v H1 hv h => ?_) (fun H1 h => ?_)⟩
  · rw [List.getElem?_map] at hv
    obtain ⟨b, hb, rfl⟩ := Option.map_eq_some_iff.mp hv
    refine ⟨rfl, yes_ (iteT ?_)⟩
    refine ⟨_, rfl, _, rfl, _, _, rfl, rfl, ub.mulOk (cb b (List.mem_of_getElem? hb)) (by decide), .inl ⟨_, rfl, _, rfl, _, _, rfl, rfl, m0, lc_leaf nD h.1 h.2 (by simp only [List.length_map, List.length_take, mulM_len]; omega) ?_⟩⟩
    rw [List.take_add_one, mulM_at hb, List.map_append]
    rfl
  · obtain ⟨s1, e1⟩ := lc_done h (ys := (mulM m u cs).map V.int) (by
      show ((mulM m u cs).take (cs.map V.int).length).map V.int = _
      rw [List.take_of_length_le (by simp [mulM_len])])
    refine ⟨D, _, rfl, .inl ⟨SqL.of e1, fun l nl => ?_⟩⟩
    have s2 := s1.trans (same_new nl (.tup ((mulM m u cs).map V.int)))
    refine ⟨_, rfl, _, rfl, _, _, rfl, rfl, ub.mulOk rb (by decide), .inl ⟨_, rfl, _, rfl, _, _, rfl, rfl, m0, (by show 3 ≤ sizeLine; decide), fun t nt => ?_⟩⟩
    have s3 := s2.trans (same_new nt (.tup [V.int (m : Int), V.ref l, V.int ((u * r) % (m : Int))]))
    exact q t _ s3 ⟨l, SqT.of upd_same, (same_new nt _).sqt (SqT.of upd_same)⟩
theorem cl__law_by {X : Cx} {p pos : Pos} {e : Expr} {es : List Expr} {t : TA} (T : Txt K mg) (hr : Room 1 X.A) (ha : PA X (e :: es) t) (hg : Gl X "_law_by" := by rfl)
    (he : starEach (e :: es) X.env = (false, eval e X.env) :: starEach es X.env := by rfl) (hpl : (backTo pos (starEach es X.env)).any (·.1) = false := by rfl) (hK : X.K = K := by rfl) (hmg : X.mg = mg := by rfl) :
    PE X (.Call (.Name "_law_by" p) (e :: es) [] pos) (tCall (sp__law_by K) [] E0 t) := by
  subst hK hmg
  exact pe_call (ok__law_by T) hr hg T.m__law_by T.F__law_by.kp T.b__law_by .nil pass0 ha (by decide) he hpl
end
end KL
namespace KL
open PySem PySem.Spec PyProof.Rows L2 RZ StX SrtO Kw KM
section
variable {P : Program} {w : World} {K : PySem.W.Frag} {mg : Str → Option Value} {base : Heap}
/-! ### the law's own tint -/
theorem ok__law_tint (T : Txt K mg) : FnOk P w K mg base CX0 3 T.a__law_tint T.d__law_tint ["_law_heap", "_law_x"] (sp_tint_on K) := by
  refine T.F__law_tint.ok sc__law_tint (fun vs H Q E h => ?_) (fun cdv A outer s H vs Q E hr h => ?_)
  · obtain ⟨a, b, hs, d, ys, rfl, _⟩ := h
    rfl
  obtain ⟨a, b, hs, d, ys, rfl, hA, hO, hlen, hb, yl, d3, yb, q⟩ := h
  refine ⟨_, pss_one (ps_ret (pe_callB (cr_sumK (K := K)) (by rfl) T.n_sum (by decide +kernel) (pa_cons (pe_lc (own := [("_law_stripe", 2), ("_law_tint_here", 3)]) (g := gTup K 2 (gCons (gName 2) (gCons (gName 3) gNil))) rfl sc__law_tint.nd (pi_tupK (K := K) (pv 0)) (blkOk_by (N := N__law_tint) (sc := defScope s__law_tint) (by decide +kernel)) (fun _ _ _ _ _ => (pg_tup (by rfl) (pgs_cons (pg_name (i := 2) sc__law_tint.nd rfl (Or.inl rfl)) (pgs_cons (pg_name (i := 3) sc__law_tint.nd rfl (Or.inl rfl)) pgs_nil)))) (fun _ _ _ _ _ => (pts_one (pt_cmpR op_eq (pe_op op_mod (pe_callTy call_int1 (by rfl) T.n_int (by decide +kernel) (pa_cons (pe_op op_sub (cl__law_along T (hr.mono (by decide)) (pa_cons (pe_ix (ix_tupK (K := K)) (pv 2) pe_int (fun _ _ => rfl)) (pa_cons (pv 1) pa_nil))) (pe_ix (ix_tupK (K := K)) (pv 2) pe_int (fun _ _ => rfl))) pa_nil)) (pe_ix (ix_tupK (K := K)) (pv 2) pe_int (fun _ _ => rfl))) pe_int (nomark _)))) (fun _ _ _ _ _ => (pv 3))) pa_nil))), ?_⟩
  obtain ⟨vs, ha, hp⟩ := hA.ex
  have hl := paired_len hp
  refine ⟨_, rfl, a, rfl, ⟨_, ha⟩, fun D nD => lc_tup (xs := vs) (Lc H D fun i => (tintL (hs.take i) ys).map V.int) (lc_start nD rfl) (fun _ _ _ h => h.1.sqt ha) (fun i v H1 hv h => ?_) (fun H1 h => ?_)⟩
  · obtain ⟨x, hx, px⟩ := paired_at hp hv
    have hi := (List.getElem?_eq_some_iff.mp hv).1
    obtain ⟨u, bb, rfl, h1, h2⟩ := px.same h.1
    have hx' := hO x (List.mem_of_getElem? hx)
    obtain ⟨pw, em, hS⟩ := hx'.ex
    have m1 : 1 ≤ x.1.m := by rw [← em]; exact mOf_pos hS.per.ok
    have tl := tintL_take (ys := ys) hx
    have tlen : (tintL (hs.take i) ys).length ≤ i := by
      unfold tintL
      rw [List.length_map]
      refine Nat.le_trans (List.length_filter_le _ _) ?_
      rw [List.length_take]
      exact Nat.min_le_left _ _
    obtain ⟨c, a1, a2⟩ := h2.at_
    refine ⟨u, _, rfl, h1, rfl, _, _, rfl, _, _, rfl, rfl, rfl, ?_⟩
    refine ⟨_, rfl, bb, _, 1, .ref c, rfl, rfl, a1, rfl, ?_⟩
    refine ⟨_, rfl, c, b, x.1.c, ys, rfl, a2, h.1.sqt hb, by rw [hx'.len, yl], by rw [hx'.len]; exact d3, hS.bd, yb, fun H2 s2 => ?_⟩
    refine ⟨_, rfl, bb, _, 2, .int x.1.r, rfl, rfl, s2.sqt a1, rfl, _, _, rfl, rfl, .inl ⟨_, rfl, ?_⟩⟩
    refine ⟨_, rfl, bb, _, 0, .int x.1.m, rfl, rfl, s2.sqt a1, rfl, _, _, rfl, rfl, (by omega), rfl, _, rfl, ite2 (fun cc => ?_) (fun cc => ?_)⟩
    · have on : onS x.1 ys = true := by
        have cc := V.int.inj (of_decide_eq_true cc)
        exact decide_eq_true cc
      rw [if_pos on] at tl
      refine ⟨_, rfl, lc_leaf nD (h.1.trans s2) (s2 _ _ h.2) (by simp only [List.length_map]; omega) ?_⟩
      show (tintL (hs.take (i + 1)) ys).map V.int = _
      rw [tl, List.map_append]
      rfl
    · have on : ¬ onS x.1 ys = true := fun z => cc (decide_eq_true (congrArg V.int (of_decide_eq_true z)))
      rw [if_neg on] at tl
      refine lc_skip (h.1.trans s2) (s2 _ _ h.2) ?_
      show (tintL (hs.take (i + 1)) ys).map V.int = _
      rw [tl]
  obtain ⟨s1, e1⟩ := lc_done h (ys := (tintL hs ys).map V.int) (by
    show (tintL (hs.take vs.length) ys).map V.int = _
    rw [List.take_of_length_le (by omega)])
  exact ⟨D, _, rfl, SqL.of e1, q H1 s1⟩
theorem cl__law_tint {X : Cx} {p pos : Pos} {e : Expr} {es : List Expr} {t : TA} (T : Txt K mg) (hr : Room 3 X.A) (ha : PA X (e :: es) t) (hg : Gl X "_law_tint" := by rfl)
    (he : starEach (e :: es) X.env = (false, eval e X.env) :: starEach es X.env := by rfl) (hpl : (backTo pos (starEach es X.env)).any (·.1) = false := by rfl) (hK : X.K = K := by rfl) (hmg : X.mg = mg := by rfl) :
    PE X (.Call (.Name "_law_tint" p) (e :: es) [] pos) (tCall (sp_tint_on K) [] E0 t) := by
  subst hK hmg
  exact pe_call (ok__law_tint T) hr hg T.m__law_tint T.F__law_tint.kp T.b__law_tint .nil pass0 ha (by decide) he hpl
/-! ### a cell that lies from another one by multiples of periods -/
def sp__law_near (K : PySem.W.Frag) : Sp := fun vs H Q _ => ∃ (d l a x : Addr) (hs : Hs) (dd : Nat) (xs : List Int), vs = [.ref d, .ref a, .ref x] ∧ DeckAt H d l ∧ HAt K H a hs ∧ (∀ z ∈ hs, SrOk dd z.1) ∧ SqT K H x (xs.map V.int) ∧ xs.length ≤ 3 ∧ (∀ z ∈ xs, Bd 250 z) ∧
  ∀ (p : Addr) (ys : List Int) (H' : Hp), Stp d l H H' → SqT K H' p (ys.map V.int) → ys.length = xs.length → (∀ y ∈ ys, Bd 500 y) → Q (.ref p) H'
theorem ok__law_near (T : Txt K mg) : FnOk P w K mg base CX0 4 T.a__law_near T.d__law_near ["_law_deck_here", "_law_heap", "_law_x"] (sp__law_near K) := by
  refine T.F__law_near.ok sc__law_near (fun vs H Q E h => ?_) (fun cdv A outer s H vs Q E hr h => ?_)
  · obtain ⟨d, l, a, x, hs, dd, xs, rfl, _⟩ := h
    rfl
  obtain ⟨d, l, a, x, hs, dd, xs, rfl, hD, hA, hO, hx, xl, xb, q⟩ := h
  refine ⟨_, pss_cons (ps_set (i := 3) sc__law_near.nd rfl (Or.inr rfl) pe_int)
    (pss_cons (ps_for PassesOwn.never rfl (pi_tupK (K := K) (pv 1)) (pg_tup (by rfl) (pgs_cons (pg_name (i := 4) sc__law_near.nd rfl (Or.inl rfl)) (pgs_cons (pg_name (i := 5) sc__law_near.nd rfl (Or.inl rfl)) pgs_nil))) (pss_cons (ps_set (i := 6) sc__law_near.nd rfl (Or.inl rfl) (pe_op op_mulW (pe_op op_fdivW (pv 3) (cl__law_common T (hr.mono (by decide)) (pa_cons (pv 3) (pa_cons (pe_ix (ix_tupK (K := K)) (pv 4) pe_int (fun _ _ => rfl)) pa_nil)))) (pe_ix (ix_tupK (K := K)) (pv 4) pe_int (fun _ _ => rfl))))
        (pss_one (ps_if (PW.pt (pw_and (pt_cmpR op_lt (pv 6) (pe_op op_pow pe_int pe_int) (nomark _)) (pw_and1 (pt_cmpR op_eq (cl__law_draw T (hr.mono (by decide)) (pa_cons (pv 0) (pa_cons pe_int pa_nil))) pe_int (nomark _))))) (pss_one (ps_set (i := 3) sc__law_near.nd rfl (Or.inr rfl) (pv 6))) pss_nil))))
    (pss_one (ps_ret (pe_callTy (call_tupleK (K := K)) (by rfl) T.n_tuple (by decide +kernel) (pa_cons (pe_lc (own := [("_law_a", 7)]) rfl sc__law_near.nd (pi_tupK (K := K) (pv 2)) (blkOk_by (N := N__law_near) (sc := defScope s__law_near) (by decide +kernel)) (fun _ _ _ _ _ => (pg_name (i := 7) sc__law_near.nd rfl (Or.inl rfl))) (fun _ _ _ _ _ => pts_nil) (fun _ _ _ _ _ => (pe_op op_add (pv 7) (pe_op op_mulW (pv 3) (cl__law_signed T (hr.mono (by decide)) (pa_cons (pv 0) (pa_cons (pe_op op_pow pe_int pe_int) pa_nil))))))) pa_nil))))), ?_⟩
  have small : ∀ n : Nat, n < 100 → Bd 2000 (n : Int) := fun n h => bdN (n := n) (by omega) (by omega) (Nat.lt_of_lt_of_le h (by decide))
  obtain ⟨vs, ha, hp⟩ := hA.ex
  have hl := paired_len hp
  refine ⟨_, rfl, a, rfl, ⟨_, ha⟩, for_tup (xs := vs) (fun i σ H' => ∃ (m : Nat) (z4 z5 z6 : Option V), σ = [some (.ref d), some (.ref a), some (.ref x), some (.int (m : Int)), z4, z5, z6, none] ∧ 1 ≤ m ∧ m < 10 ^ 41 ∧ Stp d l H H') ⟨1, none, none, none, rfl, by decide, by decide, hD.refl⟩ ?_ ?_ ?_⟩
  · rintro i σ H' _ ⟨m, z4, z5, z6, rfl, _, _, st⟩
    exact st.sqt ha
  · rintro i v σ H1 hv ⟨m, z4, z5, z6, rfl, m1, m2, st1⟩
    obtain ⟨xx, hxx, px⟩ := paired_at hp hv
    obtain ⟨u, b, rfl, h1, h2⟩ := px
    obtain ⟨pw, em, hS⟩ := (hO xx (List.mem_of_getElem? hxx)).ex
    have n1 : 1 ≤ xx.1.m := by rw [← em]; exact mOf_pos hS.per.ok
    have nb : xx.1.m < 2 ^ 2000 := by have := hS.per.bd; omega
    obtain ⟨c, a1, a2⟩ := (h2.stp st1).at_
    have g1 : 1 ≤ Nat.gcd m xx.1.m := Nat.gcd_pos_of_pos_left _ m1
    have g2 : Nat.gcd m xx.1.m ≤ m := Nat.le_of_dvd m1 (Nat.gcd_dvd_left _ _)
    have e41 : (10 : Nat) ^ 41 < 2 ^ 140 := by decide
    refine ⟨u, _, rfl, st1.sqt h1, rfl, _, _, rfl, _, _, rfl, rfl, ?_⟩
    refine ⟨_, rfl, _, rfl, _, rfl, b, _, 0, .int xx.1.m, rfl, rfl, a1, rfl, (m : Int), (xx.1.m : Int), rfl, _, _, rfl, rfl, Bd.divOk (b := 140) (by rw [Int.natAbs_natCast, Int.natAbs_natCast]; omega) (by rw [Int.natAbs_natCast, Int.natAbs_natCast]; unfold Bd; omega) (by decide) _, ?_⟩
    rw [Int.natAbs_natCast, Int.natAbs_natCast]
    dsimp only
    rw [nat_div]
    refine ⟨_, rfl, b, _, 0, .int xx.1.m, rfl, rfl, a1, rfl, _, _, rfl, rfl, ?_, ?_⟩
    · refine Bd.mulOk (a := 140) (b := 2000) ?_ ?_ (by decide)
      · have := Nat.div_le_self m (Nat.gcd m xx.1.m)
        unfold Bd
        rw [Int.natAbs_natCast]
        omega
      · unfold Bd
        omega
    dsimp only
    rw [← Int.natCast_mul]
    have k1 : 1 ≤ m / Nat.gcd m xx.1.m * xx.1.m := Nat.mul_pos (Nat.div_pos g2 g1) n1
    generalize m / Nat.gcd m xx.1.m * xx.1.m = k at k1
    refine ⟨_, rfl, _, _, rfl, rfl, ⟨by decide, by decide, by decide⟩, ?_⟩
    have e41 : (10 : Int) ^ (41 : Int).toNat = ((10 ^ 41 : Nat) : Int) := by decide +kernel
    dsimp only
    rw [e41]
    generalize 10 ^ 41 = B at m2 ⊢
    refine ⟨_, _, rfl, rfl, _, rfl, ite2 (fun cc => ?_) (fun _ => ?_)⟩
    · have cc := of_decide_eq_true cc
      have k2 : k < B := Int.ofNat_lt.mp cc
      refine ⟨_, rfl, d, l, 2, rfl, st1.post, by decide, small 2 (by decide), fun v H2 v0 v1 st2 => ?_⟩
      refine ⟨rfl, _, rfl, ite2 (fun _ => ?_) (fun _ => ?_)⟩
      · exact ⟨_, rfl, k, _, _, _, rfl, k1, k2, st1.trans st2⟩
      · exact ⟨m, _, _, _, rfl, m1, m2, st1.trans st2⟩
    · exact ⟨m, _, _, _, rfl, m1, m2, st1⟩
  rintro σ H1 ⟨m, z4, z5, z6, rfl, m1, m2, st1⟩
  have hx1 := st1.sqt hx
  have bm : Bd 140 (m : Int) := by
    have e41 : (10 : Nat) ^ 41 < 2 ^ 140 := by decide
    unfold Bd
    omega
  refine ⟨_, rfl, x, rfl, ⟨_, hx1⟩, fun D nD => lc_tup (xs := xs.map V.int) (fun i H3 => IntsD d l H1 D 500 i H3) (.start st1.post.refl nD) (fun i H3 _ h => h.st.sqt hx1) (fun i v H3 hv h => ?_) (fun H3 h => ?_)⟩
  · rw [List.getElem?_map] at hv
    obtain ⟨c, hc, rfl⟩ := Option.map_eq_some_iff.mp hv
    have hi := (List.getElem?_eq_some_iff.mp hc).1
    refine ⟨rfl, yes_ (iteT ?_)⟩
    refine ⟨_, rfl, _, rfl, _, rfl, _, _, rfl, rfl, ⟨by decide, by decide, by decide⟩, d, l, _, rfl, h.st.post, by decide, Bd.mono (a := 200) (by unfold Bd; decide +kernel) (by decide), fun v H4 v0 v1 st4 => ?_⟩
    have bv : Bd 64 v := by
      have e : (10 : Int) ^ (18 : Int).toNat + 4 < 2 ^ 64 := by decide +kernel
      unfold Bd
      omega
    exact ⟨_, _, rfl, rfl, bm.mulOk bv, _, _, rfl, rfl, h.next nD st4 ((((xb c (List.mem_of_getElem? hc)).mono (b := 250) (by decide)).add ((bm.mul bv).mono (b := 250) (by decide))).mono (by decide)) (by omega)⟩
  obtain ⟨ys, yl, yb, ye⟩ := h.ex
  have yl : ys.length = xs.length := by rw [yl, List.length_map]
  refine ⟨D, _, rfl, .inl ⟨SqL.of ye, fun p np => ?_⟩⟩
  exact q p ys _ ((st1.trans h.st).same (same_new np _)) (SqT.of upd_same) yl yb
theorem cl__law_near {X : Cx} {p pos : Pos} {e : Expr} {es : List Expr} {t : TA} (T : Txt K mg) (hr : Room 4 X.A) (ha : PA X (e :: es) t) (hg : Gl X "_law_near" := by rfl)
    (he : starEach (e :: es) X.env = (false, eval e X.env) :: starEach es X.env := by rfl) (hpl : (backTo pos (starEach es X.env)).any (·.1) = false := by rfl) (hK : X.K = K := by rfl) (hmg : X.mg = mg := by rfl) :
    PE X (.Call (.Name "_law_near" p) (e :: es) [] pos) (tCall (sp__law_near K) [] E0 t) := by
  subst hK hmg
  exact pe_call (ok__law_near T) hr hg T.m__law_near T.F__law_near.kp T.b__law_near .nil pass0 ha (by decide) he hpl
end
end KL
namespace KL
open PySem PySem.Spec PyProof.Rows L2 RZ StX SrtO Kw KM
/-! ### tints of heaps -/
theorem sum_perm {a b : List Int} (h : a.Perm b) : a.sum = b.sum := by
  induction h with
  | nil => rfl
  | cons x _ ih => rw [List.sum_cons, List.sum_cons, ih]
  | swap x y r => rw [List.sum_cons, List.sum_cons, List.sum_cons, List.sum_cons]; omega
  | trans _ _ i1 i2 => exact i1.trans i2
theorem tint_perm {a b : Hs} (h : a.Perm b) (ys : List Int) : tintOf a ys = tintOf b ys := sum_perm ((h.filter _).map _)
theorem tint_nil (ys : List Int) : tintOf [] ys = 0 := rfl
theorem tint_cons (x : Sr × Int) (r : Hs) (ys : List Int) : tintOf (x :: r) ys = (if onS x.1 ys = true then x.2 else 0) + tintOf r ys := by
  unfold tintOf tintL
  by_cases c : onS x.1 ys = true
  · simp [List.filter_cons, c]
  · simp [List.filter_cons, c]
theorem tint_append (a b : Hs) (ys : List Int) : tintOf (a ++ b) ys = tintOf a ys + tintOf b ys := by
  unfold tintOf tintL
  rw [List.filter_append, List.map_append, List.sum_append]
/-- the same cells, the same tint -/
def Twin (dd : Nat) (x y : Sr × Int) : Prop := x.2 = y.2 ∧ ∀ ys : List Int, ys.length = dd → onS x.1 ys = onS y.1 ys
theorem twin_tint {dd : Nat} {a b : Hs} (h : Paired (Twin dd) a b) {ys : List Int} (yl : ys.length = dd) : tintOf a ys = tintOf b ys := by
  induction h with
  | nil => rfl
  | cons r t ih => rw [tint_cons, tint_cons, ih, r.1, r.2 ys yl]
theorem other_on {pw : List (Nat × Nat)} (h : Pw pw) {u : Int} (nu : ∀ x ∈ pw, ¬ (x.1 : Int) ∣ u) (cs : List Int) (r : Int) (ys : List Int) : onS ⟨mOf pw, cs, r⟩ ys = onS ⟨mOf pw, mulM (mOf pw) u cs, (u * r) % ((mOf pw : Nat) : Int)⟩ ys := by
  have e : (dotI (mulM (mOf pw) u cs) ys - (u * r) % ((mOf pw : Nat) : Int)) % ((mOf pw : Nat) : Int) = (u * (dotI cs ys - r)) % ((mOf pw : Nat) : Int) := by
    unfold mulM
    rw [Int.sub_emod, dot_unit, Int.emod_emod, ← Int.sub_emod, ← Int.mul_sub]
  refine decide_eq_decide.mpr ?_
  show (dotI cs ys - r) % ((mOf pw : Nat) : Int) = 0 ↔ (dotI (mulM (mOf pw) u cs) ys - (u * r) % ((mOf pw : Nat) : Int)) % ((mOf pw : Nat) : Int) = 0
  rw [e, ← Int.dvd_iff_emod_eq_zero, ← Int.dvd_iff_emod_eq_zero]
  exact ⟨fun d => Int.dvd_trans d (Int.dvd_mul_left _ _), fun d => unit_drop h nu d⟩
/-- what the law draws -/
structure OkS (dd : Nat) (x : Sr × Int) : Prop where
  sr : SrOk dd x.1
  nz : x.2 ≠ 0
  tb : Bd 140 x.2
  mb : x.1.m < 10 ^ 40
structure Two (K : PySem.W.Frag) (w : World) (H : Hp) (f o : Addr) (dd i : Nat) : Prop where
  ex : ∃ (kf ko : Ents) (fs os : Hs), H f = some (DicN w f kf) ∧ Paired (TEnt K H) kf fs ∧ H o = some (DicN w o ko) ∧ Paired (TEnt K H) ko os ∧ (fs.map (·.1)).Nodup ∧ (os.map (·.1)).Nodup ∧ fs.length ≤ i ∧ Paired (Twin dd) fs os ∧ (∀ x ∈ fs, OkS dd x) ∧ (∀ x ∈ os, OkS dd x)
theorem Two.mono {K : PySem.W.Frag} {w : World} {H : Hp} {f o : Addr} {dd i j : Nat} (h : Two K w H f o dd i) (l : i ≤ j) : Two K w H f o dd j := by
  obtain ⟨kf, ko, fs, os, h1, h2, h3, h4, h5, h6, h7, h8⟩ := h.ex
  exact ⟨kf, ko, fs, os, h1, h2, h3, h4, h5, h6, by omega, h8⟩
theorem Two.stp {K : PySem.W.Frag} {w : World} {H H' : Hp} {d l f o : Addr} {dd i : Nat} (h : Two K w H f o dd i) (s : Stp d l H H') (f1 : f ≠ d) (f2 : f ≠ l) (o1 : o ≠ d) (o2 : o ≠ l) : Two K w H' f o dd i := by
  obtain ⟨kf, ko, fs, os, h1, h2, h3, h4, h5⟩ := h.ex
  exact ⟨kf, ko, fs, os, s.kp _ _ f1 f2 h1, Paired.mapP h2 fun _ _ z => ⟨z.1, z.2.1, z.2.2.stp s⟩, s.kp _ _ o1 o2 h3, Paired.mapP h4 fun _ _ z => ⟨z.1, z.2.1, z.2.2.stp s⟩, h5⟩
theorem tent_lock {K : PySem.W.Frag} {H : Hp} {a : Addr} {φ : Heap → Prop} {o : HO} {ks : Ents} {hs : Hs} (e : H a = some (.ext φ)) (h : Paired (TEnt K H) ks hs) : Paired (TEnt K (upd H a o)) ks hs :=
  Paired.mapP h fun _ _ z => ⟨z.1, z.2.1, sat_lock e z.2.2⟩
theorem HAt.stp {K : PySem.W.Frag} {H H' : Hp} {d l a : Addr} {hs : Hs} (h : HAt K H a hs) (s : Stp d l H H') : HAt K H' a hs := by
  obtain ⟨vs, h1, h2⟩ := h.ex
  refine ⟨vs, s.sqt h1, Paired.mapP h2 fun _ _ z => ?_⟩
  obtain ⟨t, b, e, k1, k2⟩ := z
  exact ⟨t, b, e, s.sqt k1, k2.stp s⟩
section
variable {P : Program} {w : World} {K : PySem.W.Frag} {mg : Str → Option Value} {base : Heap}
def sp__law_heaps (K : PySem.W.Frag) (w : World) : Sp := fun vs H Q _ => ∃ (d l x : Addr) (dd : Nat) (xs : List Int), vs = [.ref d, .int (dd : Int), .ref x] ∧ DeckAt H d l ∧ 1 ≤ dd ∧ dd ≤ 3 ∧ SqT K H x (xs.map V.int) ∧ xs.length = dd ∧ (∀ z ∈ xs, Bd 250 z) ∧
  ∀ (p pa pb : Addr) (hs os : Hs) (H' : Hp), Stp d l H H' → SqT K H' p [.ref pa, .ref pb] → HAt K H' pa hs → HAt K H' pb os → HsOk dd hs → HsOk dd os → hs.length ≤ 24 → os.length ≤ 24 → (∀ x ∈ hs, OkS dd x) →
    (∀ ys : List Int, ys.length = dd → tintOf hs ys = tintOf os ys) → Q (.ref p) H'
theorem ok__law_heaps (T : Txt K mg) : FnOk P w K mg base CX0 5 T.a__law_heaps T.d__law_heaps ["_law_deck_here", "_law_d", "_law_x"] (sp__law_heaps K w) := by
  refine T.F__law_heaps.ok sc__law_heaps (fun vs H Q E h => ?_) (fun cdv A outer s H vs Q E hr h => ?_)
  · obtain ⟨d, l, x, dd, xs, rfl, _⟩ := h
    rfl
  obtain ⟨d, l, x, dd, xs, rfl, hD, d1, d3, hx, xl, xb, q⟩ := h
  refine ⟨_, pss_cons (ps_asg (pe_tup (pa_cons (pe_dnewN (w := w)) (pa_cons (pe_dnewN (w := w)) pa_nil))) (pg_tup (by rfl) (pgs_cons (pg_name (i := 3) sc__law_heaps.nd rfl (Or.inr rfl)) (pgs_cons (pg_name (i := 4) sc__law_heaps.nd rfl (Or.inr rfl)) pgs_nil))))
    (pss_cons (ps_set (i := 5) sc__law_heaps.nd rfl (Or.inl rfl) (cl__law_pick T (hr.mono (by decide)) (pa_cons (pv 0) (pa_cons (pe_lst (pa_cons pe_int (pa_cons pe_int (pa_cons (pe_op op_pow pe_int pe_int) (pa_cons (pe_op op_pow pe_int pe_int) pa_nil))))) pa_nil))))
    (pss_cons (ps_for PassesOwn.never rfl (pi_range1 (by rfl) T.n_range (pa_cons (cl__law_pick T (hr.mono (by decide)) (pa_cons (pv 0) (pa_cons (pe_lst (pa_cons pe_int (pa_cons pe_int (pa_cons pe_int (pa_cons pe_int (pa_cons pe_int (pa_cons pe_int pa_nil))))))) pa_nil))) pa_nil)) (pg_name (i := 6) sc__law_heaps.nd rfl (Or.inl rfl)) (pss_cons (ps_set (i := 7) sc__law_heaps.nd rfl (Or.inl rfl) (cl__law_powers T (hr.mono (by decide)) (pa_cons (pv 0) (pa_cons (pv 5) (pa_cons pe_int pa_nil)))))
        (pss_cons (ps_set (i := 8) sc__law_heaps.nd rfl (Or.inr rfl) (cl__law_product T (hr.mono (by decide)) (pa_cons (pe_lc (own := [("_law_p", 15), ("_law_q", 16)]) (g := gTup K 2 (gCons (gName 15) (gCons (gName 16) gNil))) rfl sc__law_heaps.nd (pi_listK (K := K) (pv 7)) (blkOk_by (N := N__law_heaps) (sc := defScope s__law_heaps) (by decide +kernel)) (fun _ _ _ _ _ => (pg_tup (by rfl) (pgs_cons (pg_name (i := 15) sc__law_heaps.nd rfl (Or.inl rfl)) (pgs_cons (pg_name (i := 16) sc__law_heaps.nd rfl (Or.inl rfl)) pgs_nil)))) (fun _ _ _ _ _ => pts_nil) (fun _ _ _ _ _ => (pv 16))) pa_nil)))
        (pss_cons (ps_set (i := 9) sc__law_heaps.nd rfl (Or.inl rfl) (cl__law_numbers T (hr.mono (by decide)) (pa_cons (pv 0) (pa_cons (pv 7) (pa_cons (pv 8) (pa_cons (pv 1) pa_nil))))))
        (pss_cons (ps_set (i := 10) sc__law_heaps.nd rfl (Or.inl rfl) (cl__law_pick T (hr.mono (by decide)) (pa_cons (pv 0) (pa_cons (pe_op op_cat (pe_lst (pa_cons pe_int (pa_cons pe_int (pa_cons pe_int (pa_cons (cl__law_great T (hr.mono (by decide)) (pa_cons (pv 0) (pa_cons (pv 8) pa_nil))) pa_nil))))) (pe_lc (own := [("_law_p", 15), ("_law_q", 16)]) (g := gTup K 2 (gCons (gName 15) (gCons (gName 16) gNil))) rfl sc__law_heaps.nd (pi_listK (K := K) (pv 7)) (blkOk_by (N := N__law_heaps) (sc := defScope s__law_heaps) (by decide +kernel)) (fun _ _ _ _ _ => (pg_tup (by rfl) (pgs_cons (pg_name (i := 15) sc__law_heaps.nd rfl (Or.inl rfl)) (pgs_cons (pg_name (i := 16) sc__law_heaps.nd rfl (Or.inl rfl)) pgs_nil)))) (fun _ _ _ _ _ => pts_nil) (fun _ _ _ _ _ => (pe_op op_fdivW (pv 8) (pv 15))))) pa_nil))))
        (pss_cons (ps_set (i := 11) sc__law_heaps.nd rfl (Or.inl rfl) (pe_op op_mulW (cl__law_pick T (hr.mono (by decide)) (pa_cons (pv 0) (pa_cons (pe_lst (pa_cons pe_int (pa_cons (pe_un un_neg pe_int) pa_nil))) pa_nil))) (pe_op op_add pe_int (cl__law_great T (hr.mono (by decide)) (pa_cons (pv 0) (pa_cons (pe_op op_sub (cl__law_pick T (hr.mono (by decide)) (pa_cons (pv 0) (pa_cons (pe_lst (pa_cons (pe_op op_pow pe_int pe_int) (pa_cons (pe_op op_pow pe_int pe_int) pa_nil))) pa_nil))) pe_int) pa_nil))))))
        (pss_cons (ps_set (i := 12) sc__law_heaps.nd rfl (Or.inl rfl) (pe_tup (pa_cons (pv 8) (pa_cons (pv 9) (pa_cons (pe_op op_mod (pe_callTy call_int1 (by rfl) T.n_int (by decide +kernel) (pa_cons (pe_op op_add (cl__law_along T (hr.mono (by decide)) (pa_cons (pv 9) (pa_cons (pv 2) pa_nil))) (pv 10)) pa_nil)) (pv 8)) pa_nil)))))
        (pss_cons (ps_set (i := 13) sc__law_heaps.nd rfl (Or.inl rfl) (cl__law_by T (hr.mono (by decide)) (pa_cons (pv 12) (pa_cons (cl__law_unit T (hr.mono (by decide)) (pa_cons (pv 0) (pa_cons (pv 7) (pa_cons (pv 8) pa_nil)))) pa_nil))))
        (pss_one (ps_if (PW.pt (pw_and (pt_cmpR (op_notInN (K := K) (w := w) hr.units) (pv 12) (pv 3) (by rfl)) (pw_and1 (pt_cmpR (op_notInN (K := K) (w := w) hr.units) (pv 13) (pv 4) (by rfl))))) (pss_one (ps_asg (pe_tup (pa_cons (pv 11) (pa_cons (pv 11) pa_nil))) (pg_tup (by rfl) (pgs_cons (pg_sub (pv 3) (pv 12) (set_dN (K := K) (w := w) hr.units)) (pgs_cons (pg_sub (pv 4) (pv 13) (set_dN (K := K) (w := w) hr.units)) pgs_nil))))) pss_nil))))))))))
    (pss_cons (ps_set (i := 14) sc__law_heaps.nd rfl (Or.inl rfl) (pe_callTy (call_tupleK (K := K)) (by rfl) T.n_tuple (by decide +kernel) (pa_cons (pe_callB (cr_sortD (K := K) hr.units) (by rfl) T.n_sorted (by decide +kernel) (pa_cons (pe_lock (pe_lc (own := [("_law_stripe", 12)]) rfl sc__law_heaps.nd (pi_keysN (w := w) (pv 3)) (blkOk_by (N := N__law_heaps) (sc := defScope s__law_heaps) (by decide +kernel)) (fun _ _ _ _ _ => (pg_name (i := 12) sc__law_heaps.nd rfl (Or.inl rfl))) (fun _ _ _ _ _ => pts_nil) (fun _ _ _ _ _ => (pe_tup (pa_cons (pv 12) (pa_cons (pe_dgetN (K := K) (w := w) hr.units (pv 3) (pv 12) (fun _ _ => rfl)) pa_nil)))))) pa_nil)) pa_nil)))
    (pss_one (ps_ret (pe_tup (pa_cons (pv 14) (pa_cons (pe_callTy (call_tupleK (K := K)) (by rfl) T.n_tuple (by decide +kernel) (pa_cons (pe_callB (cr_sortD (K := K) hr.units) (by rfl) T.n_sorted (by decide +kernel) (pa_cons (pe_lock (pe_lc (own := [("_law_stripe", 12)]) rfl sc__law_heaps.nd (pi_keysN (w := w) (pv 4)) (blkOk_by (N := N__law_heaps) (sc := defScope s__law_heaps) (by decide +kernel)) (fun _ _ _ _ _ => (pg_name (i := 12) sc__law_heaps.nd rfl (Or.inl rfl))) (fun _ _ _ _ _ => pts_nil) (fun _ _ _ _ _ => (pe_tup (pa_cons (pv 12) (pa_cons (pe_dgetN (K := K) (w := w) hr.units (pv 4) (pv 12) (fun _ _ => rfl)) pa_nil)))))) pa_nil)) pa_nil)) pa_nil)))))))), ?_⟩
  have small : ∀ n : Nat, n < 100 → Bd 2000 (n : Int) := fun n h => bdN (n := n) (by omega) (by omega) (Nat.lt_of_lt_of_le h (by decide))
  have lim : ∀ n : Nat, n ≤ 100 → n ≤ sizeLine := fun n h => Nat.le_trans h (by decide)
  -- the two tables
  refine fun f nf => fun o no => ⟨(by show 2 ≤ sizeLine; decide), fun t0 nt0 => ?_⟩
  have fo : o ≠ f := fun e => by
    rw [e, upd_same] at no
    cases no
  have no0 : H o = none := by rw [upd_ne fo] at no; exact no
  have f1 := hD.offd nf
  have f2 := hD.off nf
  have o1 := hD.offd no0
  have o2 := hD.off no0
  have st0 : Stp d l H (upd (upd H f (DicN w f [])) o (DicN w o [])) := (hD.refl.upd nf).upd no0
  have st1 := st0.same (same_new nt0 (.tup [.ref f, .ref o]))
  have T1 : Two K w (upd (upd (upd H f (DicN w f [])) o (DicN w o [])) t0 (.tup [.ref f, .ref o])) f o dd 0 := by
    have s := same_new nt0 (.tup [.ref f, .ref o])
    exact ⟨[], [], [], [], s _ _ (by rw [upd_ne (Ne.symm fo)]; exact upd_same), .nil, s _ _ upd_same, .nil, List.nodup_nil, List.nodup_nil, Nat.le_refl _, .nil, fun _ h => absurd h List.not_mem_nil, fun _ h => absurd h List.not_mem_nil⟩
  have ht0 : SqT K (upd (upd (upd H f (DicN w f [])) o (DicN w o [])) t0 (.tup [.ref f, .ref o])) t0 [.ref f, .ref o] := SqT.of upd_same
  generalize upd (upd (upd H f (DicN w f [])) o (DicN w o [])) t0 (.tup [.ref f, .ref o]) = H1 at st1 T1 ht0
  refine ⟨t0, _, rfl, ht0, rfl, _, _, rfl, _, _, rfl, rfl, ?_⟩
  clear ht0 st0 nt0 no
  -- the greatest period
  refine ⟨_, rfl, _, _, rfl, rfl, ⟨by decide, by decide, by decide⟩, _, _, rfl, rfl, ⟨by decide, by decide, by decide⟩, (by show 4 ≤ sizeLine; decide), fun p np => ?_⟩
  have s2 := same_new np (.lst [.int 10, .int 100, .int (10 ^ (12 : Int).toNat), .int (10 ^ (40 : Int).toNat)])
  refine ⟨d, l, p, _, rfl, st1.post.same s2, SqL.of upd_same, st1.post.off np, by show 1 ≤ 4; decide, by show 4 ≤ 1000; decide, fun z H2 hz st2 => ?_⟩
  obtain ⟨B, rfl, hB1, hB2⟩ : ∃ B : Nat, z = .int (B : Int) ∧ 1 < B ∧ B ≤ 10 ^ 40 := by
    simp only [List.mem_cons, List.not_mem_nil, or_false] at hz
    rcases hz with rfl | rfl | rfl | rfl
    · exact ⟨10, rfl, by decide, by decide⟩
    · exact ⟨100, rfl, by decide, by decide⟩
    · exact ⟨10 ^ 12, by decide +kernel, by decide +kernel, by decide +kernel⟩
    · exact ⟨10 ^ 40, by decide +kernel, by decide +kernel, Nat.le_refl _⟩
  have T2 := (T1.stp (st1.post.stp s2) f1 f2 o1 o2).stp st2 f1 f2 o1 o2
  have stA := (st1.same s2).trans st2
  clear hz s2 np p st1 st2 T1
  -- how many
  refine ⟨_, rfl, (by show 6 ≤ sizeLine; decide), fun p np => ?_⟩
  have s3 := same_new np (.lst [.int 1, .int 2, .int 3, .int 6, .int 12, .int 24])
  refine ⟨d, l, p, _, rfl, stA.post.same s3, SqL.of upd_same, stA.post.off np, by show 1 ≤ 6; decide, by show 6 ≤ 1000; decide, fun z H3 hz st3 => ?_⟩
  obtain ⟨k, rfl, k0, k24⟩ : ∃ k : Int, z = .int k ∧ 0 ≤ k ∧ k ≤ 24 := by
    simp only [List.mem_cons, List.not_mem_nil, or_false] at hz
    rcases hz with rfl | rfl | rfl | rfl | rfl | rfl <;> exact ⟨_, rfl, by decide, by decide⟩
  have T3 := (T2.stp (stA.post.stp s3) f1 f2 o1 o2).stp st3 f1 f2 o1 o2
  have stB := (stA.same s3).trans st3
  clear hz s3 np p stA st3 T2
  refine ⟨k, rfl, by omega, by omega, for_range (lo := 0) (n := k.toNat) (fun i σ H' => ∃ z6 z7 z8 z9 z10 z11 z12 z13 : Option V, σ = [some (.ref d), some (.int (dd : Int)), some (.ref x), some (.ref f), some (.ref o), some (.int (B : Int)), z6, z7, z8, z9, z10, z11, z12, z13, none, none, none] ∧ Stp d l H H' ∧ Two K w H' f o dd i)
    ⟨none, none, none, none, none, none, none, none, rfl, stB, T3⟩ ?_ ?_⟩
  rotate_left
  · rintro σ H4 ⟨z6, z7, z8, z9, z10, z11, z12, z13, rfl, st4, T4⟩
    obtain ⟨kf, ko, fs, os, a1, a2, a3, a4, a5, a6, a7, a8, a9, a10⟩ := T4.ex
    have l1 := paired_len a8
    refine heap_of a1 a2 a5 (by omega) rfl (fun _ => rfl) (fun _ => rfl) (fun _ => rfl) fun pa H5 s5 npa hA => ?_
    refine ⟨_, rfl, heap_of (s5 _ _ a3) (Paired.mapP a4 fun _ _ z => ⟨z.1, z.2.1, z.2.2.mono s5⟩) a6 (by omega) rfl (fun _ => rfl) (fun _ => rfl) (fun _ => rfl) fun pb H6 s6 npb hB => ?_⟩
    refine ⟨(by show 2 ≤ sizeLine; decide), fun pt npt => ?_⟩
    have s7 := same_new npt (.tup [.ref pa, .ref pb])
    have pf := sortHs_perm fs
    have po := sortHs_perm os
    refine q pt pa pb (sortHs fs) (sortHs os) _ (((st4.same s5).same s6).same s7) (SqT.of upd_same) ((hA.same s6).same s7) (hB.same s7)
      ⟨fun x h => (a9 x (pf.mem_iff.mp h)).sr, fun x h => (a9 x (pf.mem_iff.mp h)).nz, sortHs_asc a5⟩ ⟨fun x h => (a10 x (po.mem_iff.mp h)).sr, fun x h => (a10 x (po.mem_iff.mp h)).nz, sortHs_asc a6⟩
      (by rw [pf.length_eq]; omega) (by rw [po.length_eq]; omega) (fun x h => a9 x (pf.mem_iff.mp h)) fun ys yl => ?_
    rw [tint_perm pf, tint_perm po]
    exact twin_tint a8 yl
  rintro i σ H4 hi ⟨z6, z7, z8, z9, z10, z11, z12, z13, rfl, st4, T4⟩
  have up : ∀ {Ha Hb : Hp}, Stp d l H Ha ∧ Two K w Ha f o dd i → Stp d l Ha Hb → Stp d l H Hb ∧ Two K w Hb f o dd i := fun h s => ⟨h.1.trans s, h.2.stp s f1 f2 o1 o2⟩
  have upS : ∀ {Ha Hb : Hp}, Stp d l H Ha ∧ Two K w Ha f o dd i → Same Ha Hb → Stp d l H Hb ∧ Two K w Hb f o dd i := fun h s => ⟨h.1.same s, h.2.stp (h.1.post.stp s) f1 f2 o1 o2⟩
  have S4 : Stp d l H H4 ∧ Two K w H4 f o dd i := ⟨st4, T4⟩
  clear st4 T4 T3 stB
  -- the period
  refine ⟨_, rfl, _, rfl, d, l, _, rfl, ⟨B, hB1, hB2, rfl⟩, S4.1.post, fun pa pw H5 st5 npl hP hA => ?_⟩
  have S5 := up S4 st5
  have hm := mOf_pos hP.ok
  have hlt := hP.lt
  have m0 : (0 : Int) < ((mOf pw : Nat) : Int) := by omega
  have e40 : (10 : Nat) ^ 40 < 2 ^ 133 := by decide
  have bm : Bd 133 ((mOf pw : Nat) : Int) := by
    unfold Bd
    omega
  have plen := pw_len hP.ok
  obtain ⟨qs, hqs, hl, hq⟩ := hA.ex
  refine ⟨_, rfl, pa, rfl, ⟨_, hqs⟩, fun D nD => lc_list (xs := qs.map V.ref) (Lc H5 D fun i => (intsN ((pw.map qOf).take i)).map V.int) (lc_start nD rfl) (fun i H' _ h => h.1.seq hqs) (fun i v H' hx h => ?_) (fun H6 h => ?_)⟩
  · obtain ⟨t, x, ht, hxp, rfl, hilt⟩ := pairs_at hl hx
    have hqq : (pw.map qOf)[i]? = some (qOf x) := by rw [List.getElem?_map, hxp]; rfl
    refine ⟨t, _, rfl, h.1.sqt (hq i t x ht hxp), rfl, _, _, rfl, _, _, rfl, rfl, rfl, yes_ (iteT ?_)⟩
    refine ⟨_, rfl, lc_leaf nD h.1 h.2 ?_ ?_⟩
    · simp only [List.length_map, List.length_take]
      omega
    · rw [List.take_add_one, hqq]
      simp [intsN]
  obtain ⟨s6, e6⟩ := lc_done h (ys := (intsN (pw.map qOf)).map V.int) (by
    show (intsN ((pw.map qOf).take (qs.map V.ref).length)).map V.int = _
    rw [List.take_of_length_le (by simp [hl])])
  have pe := prodI_mOf pw
  refine ⟨D, pw.map qOf, rfl, SqL.of e6, ?_, by rw [pe]; exact Nat.lt_trans hlt (by decide), ?_⟩
  · intro n hn
    obtain ⟨x, hx, rfl⟩ := List.mem_map.mp hn
    exact (qOf_le hP.ok hx).1
  rw [pe]
  have S6 := upS S5 s6
  have hA6 := hA.same s6
  clear pe e6 h hqs hl hq qs nD D hA
  -- the numbers
  refine ⟨_, rfl, _, rfl, _, rfl, _, rfl, d, l, pa, pw, dd, rfl, S6.1.post, hP, hA6, npl, d1, d3, fun pc csN H7 st7 hc clen clt cok => ?_⟩
  have S7 := up S6 st7
  have hA7 := hA6.stp st7 npl
  -- r, changed or not
  refine ⟨_, rfl, _, rfl, _, rfl, d, l, _, rfl, S7.1.post, by omega, bm.mono (by decide), fun g H8 g0 g1 st8 => ?_⟩
  have S8 := up S7 st8
  have hA8 := hA7.stp st8 npl
  refine ⟨(by show 4 ≤ sizeLine; decide), fun L1 nL1 => ?_⟩
  have s9 := same_new nL1 (.lst [.int 0, .int 0, .int 1, .int g])
  have e9 : (upd H8 L1 (.lst [.int 0, .int 0, .int 1, .int g])) L1 = some (.lst ([(0 : Int), 0, 1, g].map V.int)) := upd_same
  have b9 : ∀ z ∈ [(0 : Int), 0, 1, g], Bd 133 z := by
    intro z hz
    simp only [List.mem_cons, List.not_mem_nil, or_false] at hz
    rcases hz with rfl | rfl | rfl | rfl
    · unfold Bd; decide
    · unfold Bd; decide
    · unfold Bd; decide
    · exact bm.le g0 (by omega)
  have l9 : 1 ≤ [(0 : Int), 0, 1, g].length ∧ [(0 : Int), 0, 1, g].length ≤ 10 := by constructor <;> simp
  generalize upd H8 L1 (.lst [.int 0, .int 0, .int 1, .int g]) = H9 at s9 e9
  generalize [(0 : Int), 0, 1, g] = k1 at e9 b9 l9
  have S9 := upS S8 s9
  have hA9 := hA8.same s9
  obtain ⟨qs, hqs, hl, hq⟩ := hA9.ex
  refine ⟨_, rfl, pa, rfl, ⟨_, hqs⟩, fun D nD => lc_list (xs := qs.map V.ref) (fun i H' => IntsS H9 D 133 i H') (.start nD) (fun i H' _ h => h.st.seq hqs) (fun i v H' hx h => ?_) (fun H10 h => ?_)⟩
  · obtain ⟨t, x, ht, hxp, rfl, hilt⟩ := pairs_at hl hx
    have x2 := PN_lt _ (hP.ok.mem (List.mem_of_getElem? hxp))
    refine ⟨t, _, rfl, h.st.sqt (hq i t x ht hxp), rfl, _, _, rfl, _, _, rfl, rfl, rfl, yes_ (iteT ?_)⟩
    exact ⟨_, rfl, _, rfl, _, _, rfl, rfl, Bd.divOk (b := 5) (by omega) (by unfold Bd; omega) (by decide) _, h.next nD (Same.refl _) (byG_bd bm) (by omega)⟩
  obtain ⟨k2, l10, b10, e10⟩ := h.ex
  have l10 : k2.length ≤ 10 := by rw [l10, List.length_map]; omega
  refine ⟨_, _, _, _, rfl, rfl, h.st _ _ e9, e10, lim _ (by simp only [List.length_map]; omega), fun L2_ nL2 => ?_⟩
  have s11 := h.st.trans (same_new nL2 (.lst (k1.map V.int ++ k2.map V.int)))
  have e11 : (upd H10 L2_ (.lst (k1.map V.int ++ k2.map V.int))) L2_ = some (.lst ((k1 ++ k2).map V.int)) := by rw [upd_same, List.map_append]
  have b11 : ∀ z ∈ k1 ++ k2, Bd 133 z := fun z hz => (List.mem_append.mp hz).elim (b9 z) (b10 z)
  have l11 : 1 ≤ (k1 ++ k2).length ∧ (k1 ++ k2).length ≤ 20 := by rw [List.length_append]; omega
  have nl2 : L2_ ≠ l := (upS S9 h.st).1.post.off nL2
  generalize upd H10 L2_ (.lst (k1.map V.int ++ k2.map V.int)) = H11 at s11 e11
  generalize k1 ++ k2 = k3 at e11 b11 l11
  have S11 := upS S9 s11
  have hA11 := hA9.same s11
  refine ⟨d, l, L2_, _, rfl, S11.1.post, SqL.of e11, nl2, by rw [List.length_map]; exact l11.1, by rw [List.length_map]; omega, fun z H12 hz st12 => ?_⟩
  obtain ⟨more, hmore, rfl⟩ := List.mem_map.mp hz
  have bmore := b11 more hmore
  have S12 := up S11 st12
  have hA12 := hA11.stp st12 npl
  have hc12 := st12.sqt ((s9.trans s11).sqt (st8.sqt hc))
  clear hz hmore hA6 hA7 hA8 hA9 hA11 S4 S5 S6 S7 S8 S9 S11 e11 b11 l11 nl2 s11 e10 b10 l10 nL2 h hqs hq nD e9 b9 l9 s9 nL1 st8 g0 g1 hc st7 s6
  -- the tint
  refine ⟨_, rfl, _, rfl, (by show 2 ≤ sizeLine; decide), fun p np => ?_⟩
  have s13 := same_new np (.lst [.int 1, .int (-1)])
  refine ⟨d, l, p, _, rfl, S12.1.post.same s13, SqL.of upd_same, S12.1.post.off np, by show 1 ≤ 2; decide, by show 2 ≤ 1000; decide, fun z H13 hz st13 => ?_⟩
  obtain ⟨sg, rfl, hsg⟩ : ∃ sg : Int, z = .int sg ∧ (sg = 1 ∨ sg = -1) := by
    simp only [List.mem_cons, List.not_mem_nil, or_false] at hz
    rcases hz with rfl | rfl
    · exact ⟨1, rfl, .inl rfl⟩
    · exact ⟨-1, rfl, .inr rfl⟩
  have S13 := up (upS S12 s13) st13
  have hA13 := (hA12.same s13).stp st13 npl
  have hc13 := st13.sqt (s13.sqt hc12)
  clear hz s13 np p S12 hA12 hc12 st13
  refine ⟨_, rfl, _, rfl, _, _, rfl, rfl, ⟨by decide, by decide, by decide⟩, _, _, rfl, rfl, ⟨by decide, by decide, by decide⟩, (by show 2 ≤ sizeLine; decide), fun p np => ?_⟩
  have s14 := same_new np (.lst [.int (10 ^ (1 : Int).toNat), .int (10 ^ (40 : Int).toNat)])
  refine ⟨d, l, p, _, rfl, S13.1.post.same s14, SqL.of upd_same, S13.1.post.off np, by show 1 ≤ 2; decide, by show 2 ≤ 1000; decide, fun z H14 hz st14 => ?_⟩
  obtain ⟨top, rfl, ht1, ht2⟩ : ∃ top : Int, z = .int top ∧ 10 ≤ top ∧ top ≤ 2 ^ 133 := by
    simp only [List.mem_cons, List.not_mem_nil, or_false] at hz
    rcases hz with rfl | rfl
    · exact ⟨_, rfl, by decide, by decide +kernel⟩
    · exact ⟨_, rfl, by decide +kernel, by decide +kernel⟩
  have S14 := up (upS S13 s14) st14
  have hA14 := (hA13.same s14).stp st14 npl
  have hc14 := st14.sqt (s14.sqt hc13)
  clear hz s14 np p S13 hA13 hc13 st14
  have bt : Bd 134 (top - 1) := by
    have : (2 : Int) ^ 133 < 2 ^ 134 := by decide
    unfold Bd
    omega
  refine ⟨_, _, rfl, rfl, d, l, _, rfl, S14.1.post, by omega, bt.mono (by decide), fun g H15 g0 g1 st15 => ?_⟩
  have bg : Bd 135 (1 + g) := by
    have : (2 : Int) ^ 133 < 2 ^ 135 := by decide
    unfold Bd
    omega
  have bsg : Bd 2 sg := by
    rcases hsg with rfl | rfl <;> (unfold Bd; decide)
  refine ⟨_, _, rfl, rfl, _, _, rfl, rfl, bsg.mulOk bg, ?_⟩
  have S15 := up S14 st15
  have hA15 := hA14.stp st15 npl
  have hc15 := st15.sqt hc14
  have tb : Bd 140 (sg * (1 + g)) := (bsg.mul bg).mono (by decide)
  have tz : sg * (1 + g) ≠ 0 := by
    rcases hsg with rfl | rfl <;> omega
  dsimp only
  generalize sg * (1 + g) = tint at tb tz
  clear bsg bg g0 g1 bt ht1 ht2 hsg S14 hA14 hc14 st15
  -- the stripe
  generalize hcs : intsN csN = cs at hc15
  have cl : cs.length = dd := by rw [← hcs]; simp [clen]
  have c0 : ∀ c ∈ cs, 0 ≤ c ∧ c < (mOf pw : Nat) := by
    intro c hcc
    rw [← hcs] at hcc
    obtain ⟨n, hn, rfl⟩ := List.mem_map.mp hcc
    have := clt n hn
    exact ⟨by omega, by omega⟩
  have cfree : ∀ x ∈ pw, ∃ c ∈ cs, ¬ (x.1 : Int) ∣ c := by
    intro x hx
    obtain ⟨n, hn, nd⟩ := cok x hx
    refine ⟨(n : Int), by rw [← hcs]; exact List.mem_map_of_mem hn, fun z => nd (Int.natCast_dvd_natCast.mp z)⟩
  clear hcs clen clt cok csN
  have cb2 : ∀ c ∈ cs, Bd 2000 c := fun c h => by
    have := c0 c h
    have : (2 : Nat) ^ 133 < 2 ^ 2000 := by decide
    unfold Bd
    omega
  have xb2 : ∀ z ∈ xs, Bd 2000 z := fun z h => (xb z h).mono (by decide)
  have hx15 := S15.1.sqt hx
  refine ⟨_, rfl, _, rfl, _, rfl, _, rfl, pc, x, cs, xs, rfl, hc15, hx15, by omega, by omega, cb2, xb2, fun H16 s16 => ?_⟩
  refine ⟨_, rfl, _, _, rfl, rfl, .inl ⟨_, rfl, _, rfl, _, _, rfl, rfl, m0, (by show 3 ≤ sizeLine; decide), fun ps nps => ?_⟩⟩
  have r0 := emodB (dotI cs xs + more) m0
  dsimp only
  generalize (dotI cs xs + more) % ((mOf pw : Nat) : Int) = r at r0
  have s17 := s16.trans (same_new nps (.tup [.int ((mOf pw : Nat) : Int), .ref pc, .int r]))
  have hs17 : SAt K (upd H16 ps (.tup [.int ((mOf pw : Nat) : Int), .ref pc, .int r])) ps (mOf pw) cs r := ⟨pc, SqT.of upd_same, (same_new nps _).sqt (s16.sqt hc15)⟩
  generalize upd H16 ps (.tup [.int ((mOf pw : Nat) : Int), .ref pc, .int r]) = H17 at s17 hs17
  have S17 := upS S15 s17
  have hA17 := hA15.same s17
  clear nps s16 S15 hA15 hc15 hx15
  have hO : SOk pw cs r := SOk.mk' hP (by omega) (by omega) c0 cfree r0
  -- the other one
  refine ⟨_, rfl, _, rfl, _, rfl, _, rfl, d, l, pa, pw, rfl, S17.1.post, hP, hA17, npl, fun u H18 hu bu st18 => ?_⟩
  have S18 := up S17 st18
  have hs18 := hs17.stp st18
  refine ⟨ps, mOf pw, cs, r, (u : Int), rfl, hs18, hm, by omega, cb2, hO.rbd, bu.mono (by decide), fun po H19 s19 hpo => ?_⟩
  have S19 := upS S18 s19
  have hs19 := hs18.mono s19
  have hO2 := hO.other hP hu
  have nu : ∀ x ∈ pw, ¬ (x.1 : Int) ∣ (u : Int) := fun x hx z => hu x hx (Int.natCast_dvd_natCast.mp z)
  have onn := other_on hP.ok nu cs r
  clear S17 S18 hs17 hs18 hA17 st18 s19
  obtain ⟨kf, ko, fs, os, a1, a2, a3, a4, a5, a6, a7, a8, a9, a10⟩ := S19.2.ex
  have l1 := paired_len a8
  have ks : KeyN K H19 (Sr.K ⟨mOf pw, cs, r⟩) ps := SrAt.key (s := ⟨mOf pw, cs, r⟩) hs19
  have ko' : KeyN K H19 (Sr.K ⟨mOf pw, mulM (mOf pw) (u : Int) cs, ((u : Int) * r) % ((mOf pw : Nat) : Int)⟩) po := SrAt.key (s := ⟨mOf pw, mulM (mOf pw) (u : Int) cs, ((u : Int) * r) % ((mOf pw : Nat) : Int)⟩) hpo
  refine ⟨_, rfl, _, rfl, f, ps, kf, _, rfl, rfl, ⟨.inl a1, tent_keys a2⟩, ks, _, rfl, ite2 (fun c1 => ?_) (fun _ => ?_)⟩
  · refine ⟨_, rfl, _, rfl, o, po, ko, _, rfl, rfl, ⟨.inl a3, tent_keys a4⟩, ko', _, rfl, ite2 (fun c2 => ?_) (fun _ => ?_)⟩
    rotate_left
    · exact ⟨_, _, _, _, _, _, _, _, rfl, S19.1, S19.2.mono (Nat.le_succ _)⟩
    have n1 : getH fs ⟨mOf pw, cs, r⟩ = none := by
      have c1 : (!(valN kf (Sr.K ⟨mOf pw, cs, r⟩)).isSome) = true := c1
      rw [tent_val a2, Option.isSome_map] at c1
      cases e : getH fs ⟨mOf pw, cs, r⟩ with
      | none => rfl
      | some v => rw [e] at c1; cases c1
    have n2 : getH os ⟨mOf pw, mulM (mOf pw) (u : Int) cs, ((u : Int) * r) % ((mOf pw : Nat) : Int)⟩ = none := by
      have c2 : (!(valN ko (Sr.K ⟨mOf pw, mulM (mOf pw) (u : Int) cs, ((u : Int) * r) % ((mOf pw : Nat) : Int)⟩)).isSome) = true := c2
      rw [tent_val a4, Option.isSome_map] at c2
      cases e : getH os ⟨mOf pw, mulM (mOf pw) (u : Int) cs, ((u : Int) * r) % ((mOf pw : Nat) : Int)⟩ with
      | none => rfl
      | some v => rw [e] at c2; cases c2
    refine ⟨_, rfl, _, rfl, (by show 2 ≤ sizeLine; decide), fun tt ntt => ?_⟩
    have s20 := same_new ntt (.tup [.int tint, .int tint])
    refine ⟨tt, _, rfl, SqT.of upd_same, rfl, _, _, rfl, ?_⟩
    generalize upd H19 tt (.tup [.int tint, .int tint]) = H20 at s20
    have b1 := s20 _ _ a1
    have b2 : Paired (TEnt K H20) kf fs := Paired.mapP a2 fun _ _ z => ⟨z.1, z.2.1, z.2.2.mono s20⟩
    have b3 := s20 _ _ a3
    have b4 : Paired (TEnt K H20) ko os := Paired.mapP a4 fun _ _ z => ⟨z.1, z.2.1, z.2.2.mono s20⟩
    have hs20 := hs19.mono s20
    have hp20 := hpo.mono s20
    have st20 := S19.1.same s20
    have room : ∀ n : Nat, n ≤ i → n < sizeLine := fun n h => Nat.lt_of_lt_of_le (show n < 100 by omega) (by decide)
    have lkf := paired_len a2
    have lko := paired_len a4
    refine ⟨_, rfl, _, rfl, f, ps, kf, _, rfl, rfl, b1, tent_keys b2, SrAt.key (s := ⟨mOf pw, cs, r⟩) hs20, room _ (by omega), ?_⟩
    have st21 : Stp d l H (upd H20 f (DicN w f (putN kf (Sr.K ⟨mOf pw, cs, r⟩) ps (.int tint)))) := st20.upd nf
    have c1' : (upd H20 f (DicN w f (putN kf (Sr.K ⟨mOf pw, cs, r⟩) ps (.int tint)))) f = some (DicN w f (putN kf (Sr.K ⟨mOf pw, cs, r⟩) ps (.int tint))) := upd_same
    have c2' : Paired (TEnt K (upd H20 f (DicN w f (putN kf (Sr.K ⟨mOf pw, cs, r⟩) ps (.int tint))))) (putN kf (Sr.K ⟨mOf pw, cs, r⟩) ps (.int tint)) (putH fs ⟨mOf pw, cs, r⟩ tint) := tent_lock b1 (tent_put b2 tint hs20)
    have c3 : (upd H20 f (DicN w f (putN kf (Sr.K ⟨mOf pw, cs, r⟩) ps (.int tint)))) o = some (DicN w o ko) := by rw [upd_ne fo]; exact b3
    have c4 : Paired (TEnt K (upd H20 f (DicN w f (putN kf (Sr.K ⟨mOf pw, cs, r⟩) ps (.int tint))))) ko os := tent_lock b1 b4
    have hp21 : SAt K (upd H20 f (DicN w f (putN kf (Sr.K ⟨mOf pw, cs, r⟩) ps (.int tint)))) po (mOf pw) (mulM (mOf pw) (u : Int) cs) (((u : Int) * r) % ((mOf pw : Nat) : Int)) := sat_lock b1 hp20
    generalize upd H20 f (DicN w f (putN kf (Sr.K ⟨mOf pw, cs, r⟩) ps (.int tint))) = H21 at st21 c1' c2' c3 c4 hp21
    refine ⟨_, _, rfl, _, rfl, _, rfl, o, po, ko, _, rfl, rfl, c3, tent_keys c4, SrAt.key (s := ⟨mOf pw, mulM (mOf pw) (u : Int) cs, ((u : Int) * r) % ((mOf pw : Nat) : Int)⟩) hp21, room _ (by omega), ?_⟩
    refine ⟨rfl, _, _, _, _, _, _, _, _, rfl, st21.upd no0, ?_⟩
    rw [putH_new n1] at c2'
    have d4 := tent_lock (o := DicN w o (putN ko (Sr.K ⟨mOf pw, mulM (mOf pw) (u : Int) cs, ((u : Int) * r) % ((mOf pw : Nat) : Int)⟩) po (.int tint))) c3 (tent_put (s := ⟨mOf pw, mulM (mOf pw) (u : Int) cs, ((u : Int) * r) % ((mOf pw : Nat) : Int)⟩) c4 tint hp21)
    rw [putH_new n2] at d4
    refine ⟨_, _, _, _, by rw [upd_ne (Ne.symm fo)]; exact c1', tent_lock c3 c2', upd_same, d4, ?_, ?_, ?_, ?_, ?_, ?_⟩
    · rw [List.map_append]
      exact L2.nd_snoc a5 (getH_none.mp n1)
    · rw [List.map_append]
      exact L2.nd_snoc a6 (getH_none.mp n2)
    · rw [List.length_append]
      simp only [List.length_singleton]
      omega
    · exact Paired.snoc a8 ⟨rfl, fun ys _ => onn ys⟩
    · intro y hy
      rcases List.mem_append.mp hy with z | z
      · exact a9 y z
      · rw [List.mem_singleton.mp z]
        exact ⟨⟨⟨pw, rfl, hO⟩, cl⟩, tz, tb, hlt⟩
    · intro y hy
      rcases List.mem_append.mp hy with z | z
      · exact a10 y z
      · rw [List.mem_singleton.mp z]
        exact ⟨⟨⟨pw, rfl, hO2⟩, by show (mulM (mOf pw) (u : Int) cs).length = dd; rw [mulM_len]; exact cl⟩, tz, tb, hlt⟩
  · exact ⟨_, _, _, _, _, _, _, _, rfl, S19.1, S19.2.mono (Nat.le_succ _)⟩
theorem cl__law_heaps {X : Cx} {p pos : Pos} {e : Expr} {es : List Expr} {t : TA} (T : Txt K mg) (hr : Room 5 X.A) (ha : PA X (e :: es) t) (hg : Gl X "_law_heaps" := by rfl)
    (he : starEach (e :: es) X.env = (false, eval e X.env) :: starEach es X.env := by rfl) (hpl : (backTo pos (starEach es X.env)).any (·.1) = false := by rfl) (hK : X.K = K := by rfl) (hmg : X.mg = mg := by rfl) (hw : X.w = w := by rfl) :
    PE X (.Call (.Name "_law_heaps" p) (e :: es) [] pos) (tCall (sp__law_heaps K w) [] E0 t) := by
  subst hK hmg hw
  exact pe_call (ok__law_heaps T) hr hg T.m__law_heaps T.F__law_heaps.kp T.b__law_heaps .nil pass0 ha (by decide) he hpl
end
end KL
namespace KL
open PySem PySem.Spec PyProof.Rows L2 RZ StX SrtO Kw KM
theorem paired_take {α β : Type} {F : α → β → Prop} : ∀ {l : List α} {m : List β} (n : Nat), Paired F l m → Paired F (l.take n) (m.take n)
  | _, _, 0, _ => .nil
  | _, _, n + 1, .nil => .nil
  | _, _, n + 1, .cons r t => .cons r (paired_take n t)
theorem paired_drop {α β : Type} {F : α → β → Prop} : ∀ {l : List α} {m : List β} (n : Nat), Paired F l m → Paired F (l.drop n) (m.drop n)
  | _, _, 0, h => h
  | _, _, n + 1, .nil => .nil
  | _, _, n + 1, .cons _ t => paired_drop n t
theorem paired_evens {α β : Type} {F : α → β → Prop} : ∀ {l : List α} {m : List β}, Paired F l m → Paired F (evens l) (evens m)
  | _, _, .nil => .nil
  | _, _, .cons r .nil => .cons r .nil
  | _, _, .cons r (.cons _ t) => .cons r (paired_evens t)
theorem HsOk.sub {d : Nat} {a b : Hs} (h : HsOk d b) (s : a.Sublist b) : HsOk d a :=
  ⟨fun x hx => h.sr x (s.subset hx), fun x hx => h.nz x (s.subset hx), h.asc.sublist (s.map _)⟩
theorem tint_evens (ys : List Int) : ∀ l : Hs, tintOf (evens (l.drop 1)) ys + tintOf (evens l) ys = tintOf l ys
  | [] => rfl
  | x :: r => by
    have ih := tint_evens ys r
    rw [evens_cons, tint_cons, tint_cons]
    show tintOf (evens r) ys + (_ + tintOf (evens (r.drop 1)) ys) = _
    omega
theorem tint_bd {b : Nat} (ys : List Int) : ∀ {hs : Hs}, (∀ x ∈ hs, Bd b x.2) → (tintOf hs ys).natAbs ≤ hs.length * 2 ^ b
  | [], _ => by
    show (0 : Int).natAbs ≤ _
    exact Nat.zero_le _
  | x :: r, h => by
    have ih := tint_bd ys (hs := r) fun y hy => h y (List.mem_cons_of_mem _ hy)
    have hx := h x List.mem_cons_self
    rw [tint_cons, List.length_cons, Nat.add_mul, Nat.one_mul]
    unfold Bd at hx
    split <;> omega
section
variable {P : Program} {w : World} {K : PySem.W.Frag} {mg : Str → Option Value} {base : Heap}
theorem rp_ints3 {z : Int} (h : z.natAbs < 2 ^ 1900) : Rp 10000 1 (.tuple [.int z, .int z, .int z]) := Rp.tup (n := 1921) (k := 0) (fun d hd => by
  simp only [List.mem_cons, List.not_mem_nil, or_false, or_self] at hd
  rw [hd]
  exact Rp.int h) (by show 3 + 3 * 1923 ≤ 10000; decide)
/-! ### what is due at a cell -/
def sp__law_is_due (K : PySem.W.Frag) : Sp := fun vs H Q _ => ∃ (a b c : Addr) (hs os : Hs) (dd : Nat) (ys : List Int), vs = [.ref a, .ref b, .ref c] ∧ HAt K H a hs ∧ HAt K H b os ∧ HsOk dd hs ∧ HsOk dd os ∧ hs.length ≤ 24 ∧ os.length ≤ 24 ∧ (∀ x ∈ hs, OkS dd x) ∧
  tintOf hs ys = tintOf os ys ∧ SqT K H c (ys.map V.int) ∧ ys.length = dd ∧ 1 ≤ dd ∧ dd ≤ 3 ∧ (∀ y ∈ ys, Bd 600 y) ∧ ∀ H', Same H H' → Q (.bl true) H'
theorem ok__law_is_due (T : Txt K mg) : GFn P w K mg base 8 T.a__law_is_due T.d__law_is_due ["_law_heap", "_law_other", "_law_cell"] (sp__law_is_due K) := by
  refine gfn_of T.F__law_is_due sc__law_is_due (fun vs H Q E h => ?_) (fun cdv A outer s H vs Q E hq hr h => ?_)
  · obtain ⟨a, b, c, hs, os, dd, ys, rfl, _⟩ := h
    rfl
  obtain ⟨a, b, c, hs, os, dd, ys, rfl, hA, hB, hO, hO2, h24, o24, hok, same, hc, yl, d1, d3, yb, q⟩ := h
  refine ⟨_, pss_cons (ps_set (i := 3) sc__law_is_due.nd rfl (Or.inl rfl) (cl__law_tint T (hr.mono (by decide)) (pa_cons (pv 0) (pa_cons (pv 2) pa_nil))))
    (pss_cons (ps_set (i := 4) sc__law_is_due.nd rfl (Or.inl rfl) (pe_tup (pa_cons (cl_tint_at T (hr.mono (by decide)) (pa_cons (pv 0) (pa_cons (pv 2) pa_nil))) (pa_cons (pe_callN (gfn (ok_tint_at T)) hq (hr.mono (by decide)) (by rfl) T.m_tint_at T.F_tint_at.kp T.kb_tint_at_0_cell_heap (pk_cons (pv 2) (pk_cons (pv 0) pk_nil))) (pa_cons (cl_tint_at T (hr.mono (by decide)) (pa_cons (pv 1) (pa_cons (pv 2) pa_nil))) pa_nil)))))
    (pss_cons (ps_if (pt_cmpR op_ne (pe_callB (call_reprA (K := K) hq hr.units) (by rfl) T.n_repr (by decide +kernel) (pa_cons (pv 4) pa_nil)) (pe_callB (call_reprA (K := K) hq hr.units) (by rfl) T.n_repr (by decide +kernel) (pa_cons (pe_tup (pa_cons (pv 3) (pa_cons (pv 3) (pa_cons (pv 3) pa_nil)))) pa_nil)) (nomark _)) (pss_one (ps_ret pe_bl)) pss_nil)
    (pss_cons (ps_if (pt_cmpR op_ne (pe_callB (cr_sumK (K := K)) (by rfl) T.n_sum (by decide +kernel) (pa_cons (pe_lc (own := [("_law_stripe", 6), ("_law_tint_here", 7)]) (g := gTup K 2 (gCons (gName 6) (gCons (gName 7) gNil))) rfl sc__law_is_due.nd (pi_tupK (K := K) (pv 0)) (blkOk_by (N := N__law_is_due) (sc := defScope s__law_is_due) (by decide +kernel)) (fun _ _ _ _ _ => (pg_tup (by rfl) (pgs_cons (pg_name (i := 6) sc__law_is_due.nd rfl (Or.inl rfl)) (pgs_cons (pg_name (i := 7) sc__law_is_due.nd rfl (Or.inl rfl)) pgs_nil)))) (fun _ _ _ _ _ => (pts_one (pt_val (cl_is_on T (hr.mono (by decide)) (pa_cons (pv 6) (pa_cons (pv 2) pa_nil)))))) (fun _ _ _ _ _ => (pv 7))) pa_nil)) (pv 3) (nomark _)) (pss_one (ps_ret pe_bl)) pss_nil)
    (pss_cons (ps_set (i := 5) sc__law_is_due.nd rfl (Or.inl rfl) (pe_op op_fdivW (pe_callB (call_lenK (K := K)) (by rfl) T.n_len (by decide +kernel) (pa_cons (pv 0) pa_nil)) pe_int))
    (pss_one (ps_ret (pe_and (pe_cmpR op_eq (pe_op op_add (cl_tint_at T (hr.mono (by decide)) (pa_cons (pe_slice (sl_tupAK (K := K)) (pv 0) po_none (po_some (pv 5))) (pa_cons (pv 2) pa_nil))) (cl_tint_at T (hr.mono (by decide)) (pa_cons (pe_slice (sl_tupAK (K := K)) (pv 0) (po_some (pv 5)) po_none) (pa_cons (pv 2) pa_nil)))) (pv 3) (nomark _)) (pe_one (pe_cmpR op_eq (pe_op op_add (cl_tint_at T (hr.mono (by decide)) (pa_cons (pe_half (K := K) (pv 0) (po_some pe_int)) (pa_cons (pv 2) pa_nil))) (cl_tint_at T (hr.mono (by decide)) (pa_cons (pe_half (K := K) (pv 0) po_none) (pa_cons (pv 2) pa_nil)))) (pv 3) (nomark _)))))))))), ?_⟩
  have yb2 : ∀ y ∈ ys, Bd 2000 y := fun y h => (yb y h).mono (by decide)
  have tb : (tintOf hs ys).natAbs < 2 ^ 1900 := by
    have h1 := tint_bd (b := 140) ys fun x hx => (hok x hx).tb
    have h2 : hs.length * 2 ^ 140 ≤ 24 * 2 ^ 140 := Nat.mul_le_mul_right _ h24
    have h3 : 24 * 2 ^ 140 < 2 ^ 1900 := by decide +kernel
    omega
  refine ⟨_, rfl, _, rfl, a, c, hs, dd, ys, rfl, hA, hO.sr, by omega, hc, yl, d3, yb2, fun H1 s1 => ?_⟩
  refine ⟨_, rfl, _, rfl, a, c, hs, dd, ys, rfl, hA.same s1, hO, by omega, s1.sqt hc, yl, d1, d3, yb2, fun H2 s2 => ?_⟩
  have s12 := s1.trans s2
  refine ⟨_, rfl, _, rfl, a, c, hs, dd, ys, rfl, hA.same s12, hO, by omega, s12.sqt hc, yl, d1, d3, yb2, fun H3 s3 => ?_⟩
  have s13 := s12.trans s3
  refine ⟨_, rfl, _, rfl, b, c, os, dd, ys, rfl, hB.same s13, hO2, by omega, s13.sqt hc, yl, d1, d3, yb2, fun H4 s4 => ?_⟩
  have s14 := s13.trans s4
  rw [← same]
  generalize hz : tintOf hs ys = z at tb same
  refine ⟨(by show 3 ≤ sizeLine; decide), fun t nt => ?_⟩
  have s5 := same_new nt (.tup [.int z, .int z, .int z])
  have rp := rp_ints3 tb
  refine ⟨_, rfl, _, _, rfl, (.tup (SqT.of upd_same) (.cons (.int z) (.cons (.int z) (.cons (.int z) .nil)))), rp.sh, rp.nd, Nat.le_trans rp.dp (by decide), Nat.le_trans rp.ln (by decide), ?_⟩
  refine ⟨_, rfl, _, rfl, _, rfl, (by show 3 ≤ sizeLine; decide), fun t2 nt2 => ?_⟩
  have s6 := same_new nt2 (.tup [.int z, .int z, .int z])
  refine ⟨_, _, rfl, (.tup (SqT.of upd_same) (.cons (.int z) (.cons (.int z) (.cons (.int z) .nil)))), rp.sh, rp.nd, Nat.le_trans rp.dp (by decide), Nat.le_trans rp.ln (by decide), rfl, _, rfl, ite2 (fun cc => ?_) (fun _ => ?_)⟩
  · simp at cc
  have s16 := (s14.trans s5).trans s6
  generalize upd (upd H4 t (.tup [.int z, .int z, .int z])) t2 (.tup [.int z, .int z, .int z]) = H6 at s16
  clear s5 s6
  have hA6 := hA.same s16
  have hc6 := s16.sqt hc
  -- those that is_on tells
  obtain ⟨vs, ha, hp⟩ := hA6.ex
  have hl := paired_len hp
  refine ⟨_, rfl, a, rfl, ⟨_, ha⟩, fun D nD => lc_tup (xs := vs) (Lc H6 D fun i => (tintL (hs.take i) ys).map V.int) (lc_start nD rfl) (fun _ _ _ h => h.1.sqt ha) (fun i v H7 hv h => ?_) (fun H7 h => ?_)⟩
  · obtain ⟨x, hx, px⟩ := paired_at hp hv
    have hi := (List.getElem?_eq_some_iff.mp hv).1
    obtain ⟨u, bb, rfl, h1, h2⟩ := px.same h.1
    have hx' := hO.sr x (List.mem_of_getElem? hx)
    obtain ⟨pw, em, hS⟩ := hx'.ex
    have h2 : SAt K H7 bb (mOf pw) x.1.c x.1.r := by rw [em]; exact h2
    have tl := tintL_take (ys := ys) hx
    have tlen : (tintL (hs.take i) ys).length ≤ i := by
      unfold tintL
      rw [List.length_map]
      refine Nat.le_trans (List.length_filter_le _ _) ?_
      rw [List.length_take]
      exact Nat.min_le_left _ _
    have eon : decide ((dotI x.1.c ys - x.1.r) % ((mOf pw : Nat) : Int) = 0) = onS x.1 ys := by
      unfold onS
      rw [em]
    refine ⟨u, _, rfl, h1, rfl, _, _, rfl, _, _, rfl, rfl, rfl, ?_⟩
    refine ⟨_, rfl, _, rfl, bb, c, pw, x.1.c, ys, x.1.r, rfl, h2, hS, h.1.sqt hc6, by rw [hx'.len, yl], yb2, fun H8 s8 => ⟨_, rfl, ?_⟩⟩
    rw [eon]
    refine ite2 (fun cc => ?_) (fun cc => ?_)
    · rw [if_pos cc] at tl
      refine ⟨_, rfl, lc_leaf nD (h.1.trans s8) (s8 _ _ h.2) (by simp only [List.length_map]; omega) ?_⟩
      show (tintL (hs.take (i + 1)) ys).map V.int = _
      rw [tl, List.map_append]
      rfl
    · rw [if_neg cc] at tl
      refine lc_skip (h.1.trans s8) (s8 _ _ h.2) ?_
      show (tintL (hs.take (i + 1)) ys).map V.int = _
      rw [tl]
  obtain ⟨s7, e7⟩ := lc_done h (ys := (tintL hs ys).map V.int) (by
    show (tintL (hs.take vs.length) ys).map V.int = _
    rw [List.take_of_length_le (by omega)])
  refine ⟨D, _, rfl, SqL.of e7, ?_⟩
  have hz' : (tintL hs ys).sum = z := hz
  rw [hz']
  refine ⟨_, rfl, rfl, _, rfl, ite2 (fun cc => ?_) (fun _ => ?_)⟩
  · simp at cc
  have hA7 := hA6.same s7
  have hc7 := s7.sqt hc6
  have ha7 := s7.sqt ha
  have hp7 := hp.same s7
  -- the halves
  refine ⟨_, rfl, a, _, rfl, .inr ha7, _, _, rfl, rfl, Bd.divOk (b := 5) (by decide) (by unfold Bd; decide) (by decide) _, ?_⟩
  have half : ((vs.length : Nat) : Int) / 2 = ((vs.length / 2 : Nat) : Int) := by omega
  dsimp only
  rw [half]
  generalize hk : vs.length / 2 = k
  have k1 : k ≤ vs.length := by omega
  refine ⟨_, rfl, _, rfl, _, rfl, ?_⟩
  refine sl_any ha7 fun p8 H8 s8 h8 => ?_
  rw [cut_to k1] at h8
  have hA8 : HAt K H8 p8 (hs.take k) := ⟨_, h8, paired_take k (hp7.same s8)⟩
  have sub1 : (hs.take k).Sublist hs := List.take_sublist _ _
  have sub2 : (hs.drop k).Sublist hs := List.drop_sublist _ _
  refine ⟨_, rfl, p8, c, hs.take k, dd, ys, rfl, hA8, hO.sub sub1, by have := sub1.length_le; omega, s8.sqt hc7, yl, d1, d3, yb2, fun H9 s9 => ?_⟩
  have s79 := s8.trans s9
  refine ⟨_, rfl, _, rfl, _, rfl, ?_⟩
  dsimp only [tNoPart]
  refine sl_any (s79.sqt ha7) fun p10 H10 s10 h10 => ?_
  rw [cut_from k1] at h10
  have s710 := s79.trans s10
  have hA10 : HAt K H10 p10 (hs.drop k) := ⟨_, h10, paired_drop k (hp7.same s710)⟩
  refine ⟨_, rfl, p10, c, hs.drop k, dd, ys, rfl, hA10, hO.sub sub2, by have := sub2.length_le; omega, s710.sqt hc7, yl, d1, d3, yb2, fun H11 s11 => ?_⟩
  have s711 := s710.trans s11
  have e1 : tintOf (hs.take k) ys + tintOf (hs.drop k) ys = z := by
    rw [← tint_append, List.take_append_drop]
    exact hz
  refine ⟨_, _, rfl, rfl, _, rfl, rfl, ?_⟩
  refine ⟨_, rfl, ite2 (fun _ => ?_) (fun cc => absurd (decide_eq_true (congrArg V.int e1)) cc)⟩
  -- every second one
  refine ⟨_, rfl, _, rfl, a, vs, min 1 vs.length, rfl, s711.sqt ha7, .inr ⟨1, rfl, rfl⟩, fun p12 np12 => ?_⟩
  have dm : vs.drop (min 1 vs.length) = vs.drop 1 := by
    cases vs with
    | nil => rfl
    | cons v r =>
      rw [show min 1 (v :: r).length = 1 by simp only [List.length_cons]; omega]
  have h12 : SqT K (upd H11 p12 (.tup (evens (vs.drop (min 1 vs.length))))) p12 (evens (vs.drop 1)) := by
    rw [dm]
    exact SqT.of upd_same
  have s12 := same_new np12 (.tup (evens (vs.drop (min 1 vs.length))))
  generalize upd H11 p12 (.tup (evens (vs.drop (min 1 vs.length)))) = H12 at h12 s12
  have s712 := s711.trans s12
  have sub3 : (evens (hs.drop 1)).Sublist hs := (evens_sub _).trans (List.drop_sublist _ _)
  have sub4 : (evens hs).Sublist hs := evens_sub _
  refine ⟨_, rfl, p12, c, evens (hs.drop 1), dd, ys, rfl, ⟨_, h12, paired_evens (paired_drop 1 (hp7.same s712))⟩, hO.sub sub3, by have := sub3.length_le; omega, s712.sqt hc7, yl, d1, d3, yb2, fun H13 s13 => ?_⟩
  have s713 := s712.trans s13
  refine ⟨_, rfl, ?_⟩
  dsimp only [tNoPart]
  refine ⟨a, vs, 0, rfl, s713.sqt ha7, .inl ⟨rfl, rfl⟩, fun p14 np14 => ?_⟩
  have h14 : SqT K (upd H13 p14 (.tup (evens (vs.drop 0)))) p14 (evens vs) := SqT.of upd_same
  have s14 := same_new np14 (.tup (evens (vs.drop 0)))
  generalize upd H13 p14 (.tup (evens (vs.drop 0))) = H14 at h14 s14
  have s714 := s713.trans s14
  refine ⟨_, rfl, p14, c, evens hs, dd, ys, rfl, ⟨_, h14, paired_evens (hp7.same s714)⟩, hO.sub sub4, by have := sub4.length_le; omega, s714.sqt hc7, yl, d1, d3, yb2, fun H15 s15 => ?_⟩
  have e2 : tintOf (evens (hs.drop 1)) ys + tintOf (evens hs) ys = z := by
    rw [tint_evens]
    exact hz
  refine ⟨_, _, rfl, rfl, _, rfl, rfl, ?_⟩
  have z := q H15 (((s16.trans s7).trans s714).trans s15)
  rw [← decide_eq_true (congrArg V.int e2)] at z
  exact z
theorem cl__law_is_due {X : Cx} {p pos : Pos} {e : Expr} {es : List Expr} {t : TA} (T : Txt K mg) (hq : Quiet X.A) (hr : Room 8 X.A) (ha : PA X (e :: es) t) (hg : Gl X "_law_is_due" := by rfl)
    (he : starEach (e :: es) X.env = (false, eval e X.env) :: starEach es X.env := by rfl) (hpl : (backTo pos (starEach es X.env)).any (·.1) = false := by rfl) (hK : X.K = K := by rfl) (hmg : X.mg = mg := by rfl) :
    PE X (.Call (.Name "_law_is_due" p) (e :: es) [] pos) (tCall (sp__law_is_due K) [] E0 t) := by
  subst hK hmg
  exact pe_callG (ok__law_is_due T) hq hr hg T.m__law_is_due T.F__law_is_due.kp T.b__law_is_due .nil ha (by decide) he hpl
end
end KL
namespace KL
open PySem PySem.Spec PyProof.Rows L2 RZ StX SrtO Kw KM
/-- a cell stands at v -/
structure CellAt (K : PySem.W.Frag) (H : Hp) (dd : Nat) (v : V) : Prop where
  ex : ∃ (c : Addr) (ys : List Int), v = .ref c ∧ SqT K H c (ys.map V.int) ∧ ys.length = dd ∧ ∀ y ∈ ys, Bd 600 y
theorem CellAt.stp {K : PySem.W.Frag} {H H' : Hp} {d l : Addr} {dd : Nat} {v : V} (h : CellAt K H dd v) (s : Stp d l H H') : CellAt K H' dd v := by
  obtain ⟨c, ys, e, h1, h2⟩ := h.ex
  exact ⟨c, ys, e, s.sqt h1, h2⟩
theorem CellAt.same {K : PySem.W.Frag} {H H' : Hp} {dd : Nat} {v : V} (h : CellAt K H dd v) (s : Same H H') : CellAt K H' dd v := by
  obtain ⟨c, ys, e, h1, h2⟩ := h.ex
  exact ⟨c, ys, e, s.sqt h1, h2⟩
structure S12 (K : PySem.W.Frag) (H : Hp) (d l px pa pb : Addr) (dd : Nat) (xs : List Int) (hs os : Hs) : Prop where
  deck : DeckAt H d l
  x : SqT K H px (xs.map V.int)
  a : HAt K H pa hs
  b : HAt K H pb os
theorem S12.stp {K : PySem.W.Frag} {H H' : Hp} {d l px pa pb : Addr} {dd : Nat} {xs : List Int} {hs os : Hs} (h : S12 K H d l px pa pb dd xs hs os) (s : Stp d l H H') : S12 K H' d l px pa pb dd xs hs os :=
  ⟨s.post, s.sqt h.x, h.a.stp s, h.b.stp s⟩
theorem S12.same {K : PySem.W.Frag} {H H' : Hp} {d l px pa pb : Addr} {dd : Nat} {xs : List Int} {hs os : Hs} (h : S12 K H d l px pa pb dd xs hs os) (s : Same H H') : S12 K H' d l px pa pb dd xs hs os := h.stp (h.deck.stp s)
/-- the tint is the same at cells that lie from one another by multiples of all periods -/
theorem dot_shift (m : Int) : ∀ (cs xs zs : List Int), cs.length = xs.length → xs.length = zs.length → ∃ k : Int, dotI cs (List.zipWith (fun a b => a + m * b) xs zs) = dotI cs xs + m * k
  | [], _, _, _, _ => ⟨0, by show (0 : Int) = 0 + m * 0; rw [Int.mul_zero, Int.add_zero]⟩
  | c :: cs, [], _, h, _ => by cases h
  | c :: cs, x :: xs, [], _, h => by cases h
  | c :: cs, x :: xs, z :: zs, h1, h2 => by
    obtain ⟨k, e⟩ := dot_shift m cs xs zs (by simpa using h1) (by simpa using h2)
    refine ⟨c * z + k, ?_⟩
    rw [List.zipWith_cons_cons, dot_cons, dot_cons, e]
    grind
theorem on_shift {s : Sr} {M : Nat} (hm : s.m ∣ M) {xs zs : List Int} (h1 : s.c.length = xs.length) (h2 : xs.length = zs.length) : onS s (List.zipWith (fun a b => a + (M : Int) * b) xs zs) = onS s xs := by
  obtain ⟨k, e⟩ := dot_shift (M : Int) s.c xs zs h1 h2
  obtain ⟨t, rfl⟩ := hm
  unfold onS
  rw [e]
  refine decide_eq_decide.mpr ?_
  rw [← Int.dvd_iff_emod_eq_zero, ← Int.dvd_iff_emod_eq_zero]
  have d : (s.m : Int) ∣ ((s.m * t : Nat) : Int) * k := by
    rw [Int.natCast_mul, Int.mul_assoc]
    exact Int.dvd_mul_right _ _
  rw [show dotI s.c xs + ((s.m * t : Nat) : Int) * k - s.r = (dotI s.c xs - s.r) + ((s.m * t : Nat) : Int) * k by omega]
  exact ⟨fun h => by have := Int.dvd_sub h d; rwa [Int.add_sub_cancel] at this, fun h => Int.dvd_add h d⟩
theorem tint_shift {M dd : Nat} {xs zs : List Int} (h1 : xs.length = dd) (h2 : zs.length = dd) : ∀ {hs : Hs}, (∀ x ∈ hs, x.1.m ∣ M ∧ x.1.c.length = dd) → tintOf hs (List.zipWith (fun a b => a + (M : Int) * b) xs zs) = tintOf hs xs
  | [], _ => rfl
  | x :: r, h => by
    have hx := h x List.mem_cons_self
    rw [tint_cons, tint_cons, on_shift hx.1 (by rw [hx.2, h1]) (by rw [h1, h2]), tint_shift h1 h2 fun y hy => h y (List.mem_cons_of_mem _ hy)]
theorem lcm_dvd (a b : Nat) : a ∣ a / Nat.gcd a b * b ∧ b ∣ a / Nat.gcd a b * b := by
  refine ⟨?_, Nat.dvd_mul_left _ _⟩
  obtain ⟨k, hk⟩ := Nat.gcd_dvd_right a b
  have e : a / Nat.gcd a b * b = a * k := by
    rcases Nat.eq_zero_or_pos (Nat.gcd a b) with z | z
    · have : a = 0 := Nat.eq_zero_of_gcd_eq_zero_left z
      rw [this]
      simp
    · have h1 := Nat.div_mul_cancel (Nat.gcd_dvd_left a b)
      calc a / Nat.gcd a b * b = a / Nat.gcd a b * (Nat.gcd a b * k) := by rw [← hk]
        _ = a / Nat.gcd a b * Nat.gcd a b * k := by rw [Nat.mul_assoc]
        _ = a * k := by rw [h1]
  rw [e]
  exact Nat.dvd_mul_right _ _
section
variable {P : Program} {w : World} {K : PySem.W.Frag} {mg : Str → Option Value} {base : Heap}
def sp_law (K : PySem.W.Frag) : Sp := fun vs H Q _ => ∃ (a : Addr) (ns : List Int), vs = [.ref a] ∧ SqL K H a (ns.map V.int) ∧ ns.length ≤ 63 ∧ ∀ H', Q (.bl true) H'
theorem ok_law (T : Txt K mg) : GFn P w K mg base 9 T.a_law T.d_law ["_law_script"] (sp_law K) := by
  refine gfn_of T.F_law sc_law (fun vs H Q E h => ?_) (fun cdv A outer s H vs Q E hq hr h => ?_)
  · obtain ⟨a, ns, rfl, _⟩ := h
    rfl
  obtain ⟨a, ns, rfl, hs, h63, q⟩ := h
  refine ⟨_, pss_cons (ps_set (i := 1) sc_law.nd rfl (Or.inr rfl) (cl__law_deck T (hr.mono (by decide)) (pa_cons (pv 0) pa_nil)))
    (pss_cons (ps_set (i := 2) sc_law.nd rfl (Or.inl rfl) (pe_op op_add pe_int (cl__law_draw T (hr.mono (by decide)) (pa_cons (pv 1) (pa_cons pe_int pa_nil)))))
    (pss_cons (ps_set (i := 3) sc_law.nd rfl (Or.inl rfl) (pe_callTy (call_tupleK (K := K)) (by rfl) T.n_tuple (by decide +kernel) (pa_cons (pe_lc (own := [("_law_at", 13)]) rfl sc_law.nd (pi_range1 (by rfl) T.n_range (pa_cons (pv 2) pa_nil)) (blkOk_by (N := N_law) (sc := defScope s_law) (by decide +kernel)) (fun _ _ _ _ _ => (pg_name (i := 13) sc_law.nd rfl (Or.inl rfl))) (fun _ _ _ _ _ => pts_nil) (fun _ _ _ _ _ => (cl__law_signed T (hr.mono (by decide)) (pa_cons (pv 1) (pa_cons (cl__law_pick T (hr.mono (by decide)) (pa_cons (pv 1) (pa_cons (pe_lst (pa_cons (pe_op op_pow pe_int pe_int) (pa_cons (pe_op op_pow pe_int pe_int) pa_nil))) pa_nil))) pa_nil))))) pa_nil)))
    (pss_cons (ps_asg (cl__law_heaps T (w := w) (hr.mono (by decide)) (pa_cons (pv 1) (pa_cons (pv 2) (pa_cons (pv 3) pa_nil)))) (pg_tup (by rfl) (pgs_cons (pg_name (i := 4) sc_law.nd rfl (Or.inl rfl)) (pgs_cons (pg_name (i := 5) sc_law.nd rfl (Or.inl rfl)) pgs_nil))))
    (pss_cons (ps_set (i := 6) sc_law.nd rfl (Or.inl rfl) (pe_lst (pa_cons (pv 3) (pa_cons (cl__law_near T (hr.mono (by decide)) (pa_cons (pv 1) (pa_cons (pv 4) (pa_cons (pv 3) pa_nil)))) (pa_cons (cl__law_near T (hr.mono (by decide)) (pa_cons (pv 1) (pa_cons (pv 4) (pa_cons (pv 3) pa_nil)))) (pa_cons (pe_callTy (call_tupleK (K := K)) (by rfl) T.n_tuple (by decide +kernel) (pa_cons (pe_lc (own := [("_law_at", 13)]) rfl sc_law.nd (pi_range1 (by rfl) T.n_range (pa_cons (pv 2) pa_nil)) (blkOk_by (N := N_law) (sc := defScope s_law) (by decide +kernel)) (fun _ _ _ _ _ => (pg_name (i := 13) sc_law.nd rfl (Or.inl rfl))) (fun _ _ _ _ _ => pts_nil) (fun _ _ _ _ _ => (cl__law_signed T (hr.mono (by decide)) (pa_cons (pv 1) (pa_cons (pe_op op_pow pe_int pe_int) pa_nil))))) pa_nil)) pa_nil))))))
    (pss_cons (ps_for PassesOwn.never rfl (pi_listK (K := K) (pe_op op_cat (pv 6) (pe_lst (pa_cons (pe_callTy (call_tupleK (K := K)) (by rfl) T.n_tuple (by decide +kernel) (pa_cons (pe_lc (own := [("_law_a", 14)]) rfl sc_law.nd (pi_tupK (K := K) (pv 3)) (blkOk_by (N := N_law) (sc := defScope s_law) (by decide +kernel)) (fun _ _ _ _ _ => (pg_name (i := 14) sc_law.nd rfl (Or.inl rfl))) (fun _ _ _ _ _ => pts_nil) (fun _ _ _ _ _ => (pe_op op_add (pv 14) (cl__law_signed T (hr.mono (by decide)) (pa_cons (pv 1) (pa_cons pe_int pa_nil)))))) pa_nil)) pa_nil)))) (pg_name (i := 7) sc_law.nd rfl (Or.inl rfl)) (pss_one (ps_if (PW.pt (pw_or (pt_not (pt_val (cl__law_is_due T hq (hr.mono (by decide)) (pa_cons (pv 4) (pa_cons (pv 5) (pa_cons (pv 7) pa_nil)))))) (pw_or1 (pt_cmpR op_ne (pe_callB (call_reprA (K := K) hq hr.units) (by rfl) T.n_repr (by decide +kernel) (pa_cons (cl_tint_at T (hr.mono (by decide)) (pa_cons (pe_tup pa_nil) (pa_cons (pv 7) pa_nil))) pa_nil)) pe_str (nomark _))))) (pss_one (ps_ret pe_bl)) pss_nil)))
    (pss_cons (ps_set (i := 8) sc_law.nd rfl (Or.inr rfl) pe_int)
    (pss_cons (ps_for PassesOwn.never rfl (pi_tupK (K := K) (pv 4)) (pg_tup (by rfl) (pgs_cons (pg_name (i := 9) sc_law.nd rfl (Or.inl rfl)) (pgs_cons (pg_name (i := 10) sc_law.nd rfl (Or.inl rfl)) pgs_nil))) (pss_one (ps_set (i := 8) sc_law.nd rfl (Or.inr rfl) (pe_op op_mulW (pe_op op_fdivW (pv 8) (cl__law_common T (hr.mono (by decide)) (pa_cons (pv 8) (pa_cons (pe_ix (ix_tupK (K := K)) (pv 9) pe_int (fun _ _ => rfl)) pa_nil)))) (pe_ix (ix_tupK (K := K)) (pv 9) pe_int (fun _ _ => rfl))))))
    (Evl.pss_cut (ps_if (pt_cmpR op_lt (pv 8) (pe_op op_pow pe_int pe_int) (nomark _)) (pss_cons (ps_set (i := 11) sc_law.nd rfl (Or.inl rfl) (pe_callTy (call_tupleK (K := K)) (by rfl) T.n_tuple (by decide +kernel) (pa_cons (pe_lc (own := [("_law_a", 14)]) rfl sc_law.nd (pi_tupK (K := K) (pv 3)) (blkOk_by (N := N_law) (sc := defScope s_law) (by decide +kernel)) (fun _ _ _ _ _ => (pg_name (i := 14) sc_law.nd rfl (Or.inl rfl))) (fun _ _ _ _ _ => pts_nil) (fun _ _ _ _ _ => (pe_op op_add (pv 14) (pe_op op_mulW (pv 8) (cl__law_signed T (hr.mono (by decide)) (pa_cons (pv 1) (pa_cons (pe_op op_pow pe_int pe_int) pa_nil))))))) pa_nil)))
        (pss_one (ps_if (pt_cmpR op_ne (pe_callB (call_reprA (K := K) hq hr.units) (by rfl) T.n_repr (by decide +kernel) (pa_cons (cl_tint_at T (hr.mono (by decide)) (pa_cons (pv 4) (pa_cons (pv 3) pa_nil))) pa_nil)) (pe_callB (call_reprA (K := K) hq hr.units) (by rfl) T.n_repr (by decide +kernel) (pa_cons (cl_tint_at T (hr.mono (by decide)) (pa_cons (pv 4) (pa_cons (pv 11) pa_nil))) pa_nil)) (nomark _)) (pss_one (ps_ret pe_bl)) pss_nil))) pss_nil)
    (pss_cons (ps_for PassesOwn.never rfl (pi_tupK (K := K) (pe_slice (sl_tupAK (K := K)) (pv 4) po_none (po_some pe_int))) (pg_tup (by rfl) (pgs_cons (pg_name (i := 9) sc_law.nd rfl (Or.inl rfl)) (pgs_cons (pg_name (i := 10) sc_law.nd rfl (Or.inl rfl)) pgs_nil))) (pss_one (ps_for PassesOwn.never rfl (pi_listK (K := K) (pv 6)) (pg_name (i := 7) sc_law.nd rfl (Or.inl rfl)) (pss_cons (ps_set (i := 12) sc_law.nd rfl (Or.inl rfl) (pe_ifExp (pt_cmpR op_eq (pe_op op_mod (pe_callTy call_int1 (by rfl) T.n_int (by decide +kernel) (pa_cons (pe_op op_sub (cl__law_along T (hr.mono (by decide)) (pa_cons (pe_ix (ix_tupK (K := K)) (pv 9) pe_int (fun _ _ => rfl)) (pa_cons (pv 7) pa_nil))) (pe_ix (ix_tupK (K := K)) (pv 9) pe_int (fun _ _ => rfl))) pa_nil)) (pe_ix (ix_tupK (K := K)) (pv 9) pe_int (fun _ _ => rfl))) pe_int (nomark _)) (pv 10) pe_int))
            (pss_one (ps_if (pt_cmpR op_ne (pe_callB (call_reprA (K := K) hq hr.units) (by rfl) T.n_repr (by decide +kernel) (pa_cons (cl_tint_at T (hr.mono (by decide)) (pa_cons (pe_tup (pa_cons (pe_tup (pa_cons (pv 9) (pa_cons (pv 10) pa_nil))) pa_nil)) (pa_cons (pv 7) pa_nil))) pa_nil)) (pe_callB (call_reprA (K := K) hq hr.units) (by rfl) T.n_repr (by decide +kernel) (pa_cons (pv 12) pa_nil)) (nomark _)) (pss_one (ps_ret pe_bl)) pss_nil))))))
    (pss_one (ps_ret (pe_cmpR op_eq (pe_callB (call_reprA (K := K) hq hr.units) (by rfl) T.n_repr (by decide +kernel) (pa_cons (pe_lc (own := [("_law_breadth", 15)]) rfl sc_law.nd (pi_tupK (K := K) (pe_tup (pa_cons pe_int (pa_cons pe_int (pa_cons pe_int pa_nil))))) (blkOk_by (N := N_law) (sc := defScope s_law) (by decide +kernel)) (fun _ _ _ _ _ => (pg_name (i := 15) sc_law.nd rfl (Or.inl rfl))) (fun _ _ _ _ _ => pts_nil) (fun _ _ _ _ _ => (cl_tint_at T (hr.mono (by decide)) (pa_cons (pe_tup pa_nil) (pa_cons (pe_op (op_repA (K := K)) (pe_tup (pa_cons pe_int pa_nil)) (pv 15)) pa_nil))))) pa_nil)) pe_str (nomark _))))))))))))), ?_⟩
  have small : ∀ n : Nat, n < 100 → Bd 2000 (n : Int) := fun n h => bdN (n := n) (by omega) (by omega) (Nat.lt_of_lt_of_le h (by decide))
  refine ⟨_, rfl, a, ns, rfl, hs, h63, fun d l H1 s1 nd nl hD => ?_⟩
  refine ⟨_, rfl, d, l, 3, rfl, hD, by decide, small 3 (by decide), fun v H2 v0 v1 st2 => ?_⟩
  refine ⟨_, _, rfl, rfl, ?_⟩
  obtain ⟨dd, hdd⟩ : ∃ n : Nat, 1 + v = (n : Int) := ⟨(1 + v).toNat, by omega⟩
  have d1 : 1 ≤ dd := by omega
  have d3 : dd ≤ 3 := by omega
  dsimp only
  rw [hdd]
  clear hdd v0 v1 v
  have hD2 := st2.post
  clear st2 hD s1 nd nl hs
  -- the cell
  refine ⟨_, rfl, dd, rfl, by omega, by omega, fun D nD => lc_range (lo := 0) (n := ((dd : Nat) : Int).toNat) (fun i H3 => IntsD d l H2 D 250 i H3) (.start hD2.refl nD) (fun i H3 hi3 h => ?_) (fun H3 h => ?_)⟩
  · refine ⟨rfl, yes_ (iteT ?_)⟩
    refine ⟨_, rfl, _, rfl, _, _, rfl, rfl, ⟨by decide, by decide, by decide⟩, _, _, rfl, rfl, ⟨by decide, by decide, by decide⟩, (by show 2 ≤ sizeLine; decide), fun p np => ?_⟩
    have s4 := same_new np (.lst [.int (10 ^ (1 : Int).toNat), .int (10 ^ (58 : Int).toNat)])
    refine ⟨d, l, p, _, rfl, h.st.post.same s4, SqL.of upd_same, h.st.post.off np, by show 1 ≤ 2; decide, by show 2 ≤ 1000; decide, fun z H6 hz st6 => ?_⟩
    obtain ⟨top, rfl, t1, t2⟩ : ∃ top : Int, z = .int top ∧ 1 ≤ top ∧ top ≤ 2 ^ 200 := by
      simp only [List.mem_cons, List.not_mem_nil, or_false] at hz
      rcases hz with rfl | rfl
      · exact ⟨_, rfl, by decide +kernel, by decide +kernel⟩
      · exact ⟨_, rfl, by decide +kernel, by decide +kernel⟩
    have bt : Bd 210 top := by
      have : (2 : Int) ^ 200 < 2 ^ 210 := by decide
      unfold Bd
      omega
    refine ⟨d, l, top, rfl, st6.post, t1, bt.mono (by decide), fun v H7 v0 v1 st7 => ?_⟩
    refine h.next nD ((h.st.post.stp s4).trans (st6.trans st7)) ?_ (by omega)
    have : (2 : Int) ^ 200 + 4 < 2 ^ 250 := by decide
    unfold Bd
    omega
  obtain ⟨xs, xl, xb, xe⟩ := h.ex
  have xl : xs.length = dd := by rw [xl]; omega
  refine ⟨D, _, rfl, .inl ⟨SqL.of xe, fun px npx => ?_⟩⟩
  have st4 := h.st.same (same_new npx (.tup (xs.map V.int)))
  have hx4 : SqT K (upd H3 px (.tup (xs.map V.int))) px (xs.map V.int) := SqT.of upd_same
  generalize upd H3 px (.tup (xs.map V.int)) = H4 at st4 hx4
  clear h xe npx nD
  -- the heaps
  refine ⟨_, rfl, _, rfl, _, rfl, d, l, px, dd, xs, rfl, st4.post, d1, d3, hx4, xl, xb, fun pt pa pb hs os H5 st5 hpt hA hB hO hO2 h24 o24 hok same => ?_⟩
  refine ⟨pt, _, rfl, hpt, rfl, _, _, rfl, _, _, rfl, rfl, ?_⟩
  have S5 : S12 K H5 d l px pa pb dd xs hs os := ⟨st5.post, st5.sqt hx4, hA, hB⟩
  clear st5 hpt hA hB hx4 st4 hD2
  have xb6 : ∀ x ∈ xs, Bd 600 x := fun x h => (xb x h).mono (by decide)
  have xb2 : ∀ x ∈ xs, Bd 2000 x := fun x h => (xb x h).mono (by decide)
  -- the cells
  refine ⟨_, rfl, _, rfl, _, rfl, _, rfl, d, l, pa, px, hs, dd, xs, rfl, S5.deck, S5.a, hO.sr, S5.x, by omega, xb, fun p1 y1 H6 st6 hy1 l1 b1 => ?_⟩
  have S6 := S5.stp st6
  refine ⟨_, rfl, _, rfl, _, rfl, d, l, pa, px, hs, dd, xs, rfl, S6.deck, S6.a, hO.sr, S6.x, by omega, xb, fun p2 y2 H7 st7 hy2 l2 b2 => ?_⟩
  have S7 := S6.stp st7
  refine ⟨_, rfl, dd, rfl, by omega, by omega, fun D nD => lc_range (lo := 0) (n := ((dd : Nat) : Int).toNat) (fun i H3 => IntsD d l H7 D 250 i H3) (.start S7.deck.refl nD) (fun i H3 hi3 h => ?_) (fun H8 h => ?_)⟩
  · refine ⟨rfl, yes_ (iteT ?_)⟩
    refine ⟨_, rfl, _, _, rfl, rfl, ⟨by decide, by decide, by decide⟩, d, l, _, rfl, h.st.post, by decide, Bd.mono (a := 200) (by unfold Bd; decide +kernel) (by decide), fun v H4 v0 v1 st4 => ?_⟩
    exact h.next nD st4 (by
      have e : (10 : Int) ^ (60 : Int).toNat + 4 < 2 ^ 250 := by decide +kernel
      unfold Bd
      omega) (by omega)
  obtain ⟨y3, l3, b3, e3⟩ := h.ex
  have l3 : y3.length = dd := by rw [l3]; omega
  refine ⟨D, _, rfl, .inl ⟨SqL.of e3, fun p3 np3 => ?_⟩⟩
  have s9 := same_new np3 (.tup (y3.map V.int))
  have S9 := (S7.stp h.st).same s9
  have hy3 : SqT K (upd H8 p3 (.tup (y3.map V.int))) p3 (y3.map V.int) := SqT.of upd_same
  have c1 : CellAt K (upd H8 p3 (.tup (y3.map V.int))) dd (.ref p1) := (CellAt.mk ⟨p1, y1, rfl, hy1, by omega, fun y h => (b1 y h).mono (by decide)⟩ |>.stp (st7.trans h.st)).same s9
  have c2 : CellAt K (upd H8 p3 (.tup (y3.map V.int))) dd (.ref p2) := (CellAt.mk ⟨p2, y2, rfl, hy2, by omega, fun y h => (b2 y h).mono (by decide)⟩ |>.stp h.st).same s9
  have c3 : CellAt K (upd H8 p3 (.tup (y3.map V.int))) dd (.ref p3) := .mk ⟨p3, y3, rfl, hy3, l3, fun y h => (b3 y h).mono (by decide)⟩
  have c0 : CellAt K (upd H8 p3 (.tup (y3.map V.int))) dd (.ref px) := .mk ⟨px, xs, rfl, S9.x, xl, xb6⟩
  generalize upd H8 p3 (.tup (y3.map V.int)) = H9 at S9 c0 c1 c2 c3
  refine ⟨(by show 4 ≤ sizeLine; decide), fun L nL => ?_⟩
  have s10 := same_new nL (.lst [.ref px, .ref p1, .ref p2, .ref p3])
  have nLl : L ≠ l := S9.deck.off nL
  have S10 := S9.same s10
  have hL10 : (upd H9 L (.lst [.ref px, .ref p1, .ref p2, .ref p3])) L = some (.lst [.ref px, .ref p1, .ref p2, .ref p3]) := upd_same
  have cL : ∀ v ∈ [V.ref px, .ref p1, .ref p2, .ref p3], CellAt K (upd H9 L (.lst [.ref px, .ref p1, .ref p2, .ref p3])) dd v := by
    intro v hv
    simp only [List.mem_cons, List.not_mem_nil, or_false] at hv
    rcases hv with rfl | rfl | rfl | rfl
    · exact c0.same s10
    · exact c1.same s10
    · exact c2.same s10
    · exact c3.same s10
  have lL : [V.ref px, .ref p1, .ref p2, .ref p3].length = 4 := rfl
  generalize upd H9 L (.lst [.ref px, .ref p1, .ref p2, .ref p3]) = H10 at s10 S10 hL10 cL
  generalize [V.ref px, .ref p1, .ref p2, .ref p3] = cells at hL10 cL lL
  clear c0 c1 c2 c3 hy1 hy2 hy3 s9 S9 h e3 np3 nD S7 S6 st7 st6 s10 nL S5
  -- one more, nearer
  refine ⟨_, rfl, _, rfl, px, rfl, ⟨_, S10.x⟩, fun D nD => lc_tup (xs := xs.map V.int) (fun i H3 => IntsD d l H10 D 300 i H3) (.start S10.deck.refl nD) (fun i H3 _ h => h.st.sqt S10.x) (fun i v H3 hv h => ?_) (fun H11 h => ?_)⟩
  · rw [List.getElem?_map] at hv
    obtain ⟨c, hc, rfl⟩ := Option.map_eq_some_iff.mp hv
    have hi := (List.getElem?_eq_some_iff.mp hc).1
    refine ⟨rfl, yes_ (iteT ?_)⟩
    refine ⟨_, rfl, _, rfl, d, l, 3, rfl, h.st.post, by decide, by unfold Bd; decide, fun v H4 v0 v1 st4 => ?_⟩
    have bv : Bd 250 v := by
      have : (20 : Nat) < 2 ^ 250 := by decide
      unfold Bd
      omega
    exact ⟨_, _, rfl, rfl, h.next nD st4 (((xb c (List.mem_of_getElem? hc)).add bv).mono (by decide)) (by omega)⟩
  obtain ⟨y4, l4, b4, e4⟩ := h.ex
  have l4 : y4.length = dd := by rw [l4, List.length_map]; exact xl
  refine ⟨D, _, rfl, .inl ⟨SqL.of e4, fun p4 np4 => ?_⟩⟩
  have s12 := same_new np4 (.tup (y4.map V.int))
  have S12' := (S10.stp h.st).same s12
  have c4 : CellAt K (upd H11 p4 (.tup (y4.map V.int))) dd (.ref p4) := .mk ⟨p4, y4, rfl, SqT.of upd_same, l4, fun y h => (b4 y h).mono (by decide)⟩
  have cL12 : ∀ v ∈ cells, CellAt K (upd H11 p4 (.tup (y4.map V.int))) dd v := fun v hv => ((cL v hv).stp h.st).same s12
  have hL12 := s12 _ _ (h.st.lst nLl hL10)
  generalize upd H11 p4 (.tup (y4.map V.int)) = H12 at s12 S12' c4 cL12 hL12
  refine ⟨(by show 1 ≤ sizeLine; decide), fun M nM => ?_⟩
  have s13 := same_new nM (.lst [.ref p4])
  refine ⟨_, _, _, _, rfl, rfl, s13 _ _ hL12, upd_same, ?_, fun N nN => ?_⟩
  · rw [lL]
    show 4 + 1 ≤ sizeLine
    decide
  have s14 := s13.trans (same_new nN (.lst (cells ++ [.ref p4])))
  have S14 := S12'.same s14
  have hN : SqL K (upd (upd H12 M (.lst [.ref p4])) N (.lst (cells ++ [.ref p4]))) N (cells ++ [.ref p4]) := SqL.of upd_same
  have nNl : N ≠ l := (S12'.same s13).deck.off nN
  have hL14 := s14 _ _ hL12
  have cN : ∀ v ∈ cells ++ [V.ref p4], CellAt K (upd (upd H12 M (.lst [.ref p4])) N (.lst (cells ++ [.ref p4]))) dd v := fun v hv => by
    rcases List.mem_append.mp hv with k | k
    · exact (cL12 v k).same s14
    · rw [List.mem_singleton.mp k]
      exact c4.same s14
  have cL14 : ∀ v ∈ cells, CellAt K (upd (upd H12 M (.lst [.ref p4])) N (.lst (cells ++ [.ref p4]))) dd v := fun v hv => (cL12 v hv).same s14
  generalize upd (upd H12 M (.lst [.ref p4])) N (.lst (cells ++ [.ref p4])) = H14 at s14 S14 hN hL14 cN cL14
  generalize cells ++ [V.ref p4] = more at hN cN
  clear s12 s13 nM c4 S12' cL12 hL12 h e4 np4 nD S10 hL10 cL
  -- each cell
  refine ⟨N, rfl, ⟨_, hN⟩, for_list (xs := more) (fun i σ H' => ∃ z7 : Option V, σ = [some (.ref a), some (.ref d), some (.int (dd : Int)), some (.ref px), some (.ref pa), some (.ref pb), some (.ref L), z7, none, none, none, none, none, none, none, none] ∧ Same H14 H') ⟨none, rfl, Same.refl _⟩ ?_ ?_ ?_⟩
  · rintro i σ H' _ ⟨z7, rfl, s⟩
    exact s.seq hN
  · rintro i v σ H15 hv ⟨z7, rfl, s15⟩
    obtain ⟨c, ys, rfl, hc, yl, yb⟩ := ((cN v (List.mem_of_getElem? hv)).same s15).ex
    have S15 := S14.same s15
    refine ⟨_, rfl, _, rfl, _, rfl, pa, pb, c, hs, os, dd, ys, rfl, S15.a, S15.b, hO, hO2, h24, o24, hok, same ys yl, hc, yl, d1, d3, yb, fun H16 s16 => ⟨true, rfl, iteF ?_⟩⟩
    have yb2 : ∀ y ∈ ys, Bd 2000 y := fun y h => (yb y h).mono (by decide)
    refine ⟨Nat.zero_le _, fun pe npe => ?_⟩
    have s17 := same_new npe (.tup [])
    refine ⟨_, rfl, pe, c, [], dd, ys, rfl, ⟨[], SqT.of upd_same, .nil⟩, ⟨fun _ h => absurd h List.not_mem_nil, fun _ h => absurd h List.not_mem_nil, .nil⟩, Nat.zero_le _, (s16.trans s17).sqt hc, yl, d1, d3, yb2, fun H18 s18 => ?_⟩
    have rp := Rp.int (i := 0) (by decide)
    refine ⟨_, _, rfl, .int 0, rp.sh, rp.nd, Nat.le_trans rp.dp (by decide), Nat.le_trans rp.ln (by decide), ?_⟩
    refine ⟨rfl, _, rfl, ite2 (fun cc => absurd cc (by decide)) (fun _ => ?_)⟩
    exact ⟨_, rfl, ((s15.trans s16).trans s17).trans s18⟩
  rintro σ H15 ⟨z7, rfl, s15⟩
  have S15 := S14.same s15
  have hL15 := s15 _ _ hL14
  have cL15 : ∀ v ∈ cells, CellAt K H15 dd v := fun v hv => (cL14 v hv).same s15
  clear hN cN hL14 cL14 S14 s14 nN nNl
  -- all periods together
  obtain ⟨vs, hva, hvp⟩ := S15.a.ex
  have hvl := paired_len hvp
  refine ⟨_, rfl, pa, rfl, ⟨_, hva⟩, for_tup (xs := vs) (fun i σ H' => ∃ (M : Nat) (z9 z10 : Option V), σ = [some (.ref a), some (.ref d), some (.int (dd : Int)), some (.ref px), some (.ref pa), some (.ref pb), some (.ref L), z7, some (.int (M : Int)), z9, z10, none, none, none, none, none] ∧ H15 = H' ∧ 1 ≤ M ∧ M ≤ (10 ^ 40) ^ i ∧
    ∀ (j : Nat) (x : Sr × Int), j < i → hs[j]? = some x → x.1.m ∣ M) ⟨1, none, none, rfl, rfl, Nat.le_refl _, Nat.le_refl _, fun j x h => absurd h (Nat.not_lt_zero j)⟩ ?_ ?_ ?_⟩
  · rintro i σ H' _ ⟨M, z9, z10, rfl, rfl, _⟩
    exact hva
  · rintro i v σ H16 hv ⟨M, z9, z10, rfl, rfl, M1, M2, Md⟩
    obtain ⟨xx, hxx, px⟩ := paired_at hvp hv
    have hi := (List.getElem?_eq_some_iff.mp hv).1
    obtain ⟨u, b, rfl, h1, h2⟩ := px
    have ok := hok xx (List.mem_of_getElem? hxx)
    obtain ⟨pw, em, hS⟩ := ok.sr.ex
    have n1 : 1 ≤ xx.1.m := by rw [← em]; exact mOf_pos hS.per.ok
    obtain ⟨c, a1, a2⟩ := h2.at_
    have g1 : 1 ≤ Nat.gcd M xx.1.m := Nat.gcd_pos_of_pos_left _ M1
    have g2 : Nat.gcd M xx.1.m ≤ M := Nat.le_of_dvd M1 (Nat.gcd_dvd_left _ _)
    have Mb : M < 2 ^ 3300 := by
      have e1 : (10 ^ 40) ^ i ≤ (10 ^ 40) ^ 24 := Nat.pow_le_pow_right (by decide) (by omega)
      have e2 : (10 ^ 40) ^ 24 < 2 ^ 3300 := by decide +kernel
      omega
    refine ⟨u, _, rfl, h1, rfl, _, _, rfl, _, _, rfl, rfl, ?_⟩
    refine ⟨_, rfl, _, rfl, _, rfl, b, _, 0, .int xx.1.m, rfl, rfl, a1, rfl, (M : Int), (xx.1.m : Int), rfl, _, _, rfl, rfl, Bd.divOk (b := 3300) (by rw [Int.natAbs_natCast, Int.natAbs_natCast]; omega) (by rw [Int.natAbs_natCast, Int.natAbs_natCast]; unfold Bd; rw [Int.natAbs_natCast]; omega) (by decide) _, ?_⟩
    rw [Int.natAbs_natCast, Int.natAbs_natCast]
    dsimp only
    rw [nat_div]
    have mlt := ok.mb
    have e40 : (10 : Nat) ^ 40 < 2 ^ 133 := by decide
    have dle := Nat.div_le_self M (Nat.gcd M xx.1.m)
    refine ⟨_, rfl, b, _, 0, .int xx.1.m, rfl, rfl, a1, rfl, _, _, rfl, rfl, ?_, ?_⟩
    · refine Bd.mulOk (a := 3300) (b := 133) ?_ ?_ (by decide)
      · unfold Bd
        rw [Int.natAbs_natCast]
        omega
      · unfold Bd
        omega
    dsimp only
    rw [← Int.natCast_mul]
    obtain ⟨k1, k2⟩ := lcm_dvd M xx.1.m
    refine ⟨_, _, _, rfl, rfl, Nat.mul_pos (Nat.div_pos g2 g1) n1, ?_, fun j x hj hx => ?_⟩
    · rw [Nat.pow_succ]
      exact Nat.mul_le_mul (Nat.le_trans dle M2) (Nat.le_of_lt mlt)
    · by_cases e : j = i
      · subst e
        rw [hxx] at hx
        cases hx
        exact k2
      · exact Nat.dvd_trans (Md j x (by omega) hx) k1
  rintro σ H16 ⟨M, z9, z10, rfl, rfl, M1, M2, Md⟩
  have Mall : ∀ x ∈ hs, x.1.m ∣ M ∧ x.1.c.length = dd := by
    intro x hx
    obtain ⟨j, hj, e⟩ := List.mem_iff_getElem.mp hx
    exact ⟨Md j x (by omega) (by rw [List.getElem?_eq_getElem hj, e]), (hO.sr x hx).len⟩
  clear Md M2
  have e41 : (10 : Int) ^ (41 : Int).toNat = ((10 ^ 41 : Nat) : Int) := by decide +kernel
  have lt41 : (10 : Nat) ^ 41 < 2 ^ 140 := by decide
  have tbd : ∀ {gs : Hs} {b : Nat}, gs.length ≤ 24 → b ≤ 140 → (∀ x ∈ gs, Bd b x.2) → ∀ ys, (tintOf gs ys).natAbs < 2 ^ 1900 := by
    intro gs b h1 hb h2 ys
    have h3 := tint_bd (b := 140) ys fun x hx => (h2 x hx).mono hb
    have h4 : gs.length * 2 ^ 140 ≤ 24 * 2 ^ 140 := Nat.mul_le_mul_right _ h1
    have h5 : 24 * 2 ^ 140 < 2 ^ 1900 := by decide +kernel
    omega
  refine ⟨fun σ H' => ∃ z11 : Option V, σ = [some (.ref a), some (.ref d), some (.int (dd : Int)), some (.ref px), some (.ref pa), some (.ref pb), some (.ref L), z7, some (.int (M : Int)), z9, z10, z11, none, none, none, none] ∧ S12 K H' d l px pa pb dd xs hs os ∧ H' L = some (.lst cells) ∧ ∀ v ∈ cells, CellAt K H' dd v, ?_, ?_⟩
  · refine ⟨_, rfl, _, _, rfl, rfl, ⟨by decide, by decide, by decide⟩, ?_⟩
    dsimp only
    rw [e41]
    generalize 10 ^ 41 = B at lt41 ⊢
    refine ⟨_, _, rfl, rfl, _, rfl, ite2 (fun cc => ?_) (fun _ => ⟨_, rfl, S15, hL15, cL15⟩)⟩
    have cc : M < B := Int.ofNat_lt.mp (of_decide_eq_true cc)
    have bM : Bd 140 (M : Int) := by
      unfold Bd
      rw [Int.natAbs_natCast]
      omega
    clear e41 lt41
    refine ⟨_, rfl, px, rfl, ⟨_, S15.x⟩, fun D nD => lc_tup (xs := xs.map V.int) (fun i H3 => Stp d l H15 H3 ∧ ∃ zs : List Int, zs.length = i ∧ H3 D = some (.lst ((List.zipWith (fun a b => a + (M : Int) * b) (xs.take i) zs).map V.int)) ∧ ∀ y ∈ List.zipWith (fun a b => a + (M : Int) * b) (xs.take i) zs, Bd 600 y)
      ⟨S15.deck.refl.upd nD, [], rfl, upd_same, fun _ h => absurd h List.not_mem_nil⟩ (fun i H3 _ h => h.1.sqt S15.x) (fun i v H3 hv h => ?_) (fun H17 h => ?_)⟩
    · obtain ⟨st, zs, zl, ze, zb⟩ := h
      rw [List.getElem?_map] at hv
      obtain ⟨c, hc, rfl⟩ := Option.map_eq_some_iff.mp hv
      have hi := (List.getElem?_eq_some_iff.mp hc).1
      refine ⟨rfl, yes_ (iteT ?_)⟩
      refine ⟨_, rfl, _, rfl, _, rfl, _, _, rfl, rfl, ⟨by decide, by decide, by decide⟩, d, l, _, rfl, st.post, by decide, Bd.mono (a := 200) (by unfold Bd; decide +kernel) (by decide), fun v H4 v0 v1 st4 => ?_⟩
      have bv : Bd 64 v := by
        have e : (10 : Int) ^ (18 : Int).toNat + 4 < 2 ^ 64 := by decide +kernel
        unfold Bd
        omega
      have zw : List.zipWith (fun a b => a + (M : Int) * b) (xs.take (i + 1)) (zs ++ [v]) = List.zipWith (fun a b => a + (M : Int) * b) (xs.take i) zs ++ [c + (M : Int) * v] := by
        rw [List.take_add_one, hc, List.zipWith_append (by rw [List.length_take, zl]; omega)]
        rfl
      refine ⟨_, _, rfl, rfl, bM.mulOk bv, _, _, rfl, rfl, _, st4.lst (S15.deck.off nD) ze, ?_, (st.trans st4).upd nD, zs ++ [v], by rw [List.length_append, zl]; rfl, ?_, ?_⟩
      · rw [List.length_map, List.length_zipWith, List.length_take]
        exact Nat.lt_of_lt_of_le (show min (min i xs.length) zs.length < 4 by omega) (by decide)
      · rw [upd_same, zw, List.map_append]
        rfl
      · rw [zw]
        intro y hy
        rcases List.mem_append.mp hy with k | k
        · exact zb y k
        · rw [List.mem_singleton.mp k]
          exact (((xb c (List.mem_of_getElem? hc)).mono (b := 250) (by decide)).add ((bM.mul bv).mono (b := 250) (by decide))).mono (by decide)
    obtain ⟨st, zs, zl, ze, zb⟩ := h
    rw [List.length_map] at zl ze zb
    rw [List.take_length] at ze zb
    refine ⟨D, _, rfl, .inl ⟨SqL.of ze, fun py npy => ?_⟩⟩
    have s18 := same_new npy (.tup ((List.zipWith (fun a b => a + (M : Int) * b) xs zs).map V.int))
    have S18 := (S15.stp st).same s18
    have hy18 : SqT K (upd H17 py (.tup ((List.zipWith (fun a b => a + (M : Int) * b) xs zs).map V.int))) py ((List.zipWith (fun a b => a + (M : Int) * b) xs zs).map V.int) := SqT.of upd_same
    have hL18 := s18 _ _ (st.lst nLl hL15)
    have cL18 : ∀ v ∈ cells, CellAt K (upd H17 py (.tup ((List.zipWith (fun a b => a + (M : Int) * b) xs zs).map V.int))) dd v := fun v hv => ((cL15 v hv).stp st).same s18
    generalize upd H17 py (.tup ((List.zipWith (fun a b => a + (M : Int) * b) xs zs).map V.int)) = H18 at s18 S18 hy18 hL18 cL18
    have yl : (List.zipWith (fun a b => a + (M : Int) * b) xs zs).length = dd := by rw [List.length_zipWith]; omega
    have shift := tint_shift (M := M) xl (show zs.length = dd by omega) Mall
    generalize List.zipWith (fun a b => a + (M : Int) * b) xs zs = ys at hy18 zb yl shift
    have rp := Rp.int (tbd h24 (Nat.le_refl _) (fun x hx => (hok x hx).tb) xs)
    refine ⟨_, rfl, _, rfl, pa, px, hs, dd, xs, rfl, S18.a, hO, by omega, S18.x, xl, d1, d3, xb2, fun H19 s19 => ?_⟩
    refine ⟨_, _, rfl, .int _, rp.sh, rp.nd, Nat.le_trans rp.dp (by decide), Nat.le_trans rp.ln (by decide), ?_⟩
    have S19 := S18.same s19
    refine ⟨_, rfl, _, rfl, pa, py, hs, dd, ys, rfl, S19.a, hO, by omega, s19.sqt hy18, yl, d1, d3, fun y h => (zb y h).mono (by decide), fun H20 s20 => ?_⟩
    rw [shift]
    refine ⟨_, _, rfl, .int _, rp.sh, rp.nd, Nat.le_trans rp.dp (by decide), Nat.le_trans rp.ln (by decide), ?_⟩
    refine ⟨rfl, _, rfl, ite2 (fun cc => ?_) (fun _ => ?_)⟩
    · simp at cc
    · exact ⟨_, rfl, S19.same s20, s20 _ _ (s19 _ _ hL18), fun v hv => ((cL18 v hv).same s19).same s20⟩
  rintro σ H20 ⟨z11, rfl, S20, hL20, cL20⟩
  clear S15 hL15 cL15 s15 hva hvp hvl vs Mall M1
  -- stripes alone
  obtain ⟨vs, hva, hvp⟩ := S20.a.ex
  have hvl := paired_len hvp
  refine ⟨_, rfl, ?_⟩
  unfold tNoPart
  refine ⟨4, rfl, ?_⟩
  refine sl_any hva fun p4 H21 s21 h21 => ?_
  have cutk : cutV vs none (some 4) = vs.take (HT.sIx vs.length vs.length (some 4)) := by
    unfold cutV
    rw [HT.sIx_none, List.drop_zero, Nat.sub_zero]
  rw [cutk] at h21
  have hw21 : PrsAt' K H21 (vs.take (HT.sIx vs.length vs.length (some 4))) (hs.take (HT.sIx vs.length vs.length (some 4))) := paired_take _ (hvp.same s21)
  have hsub : ∀ x ∈ hs.take (HT.sIx vs.length vs.length (some 4)), x ∈ hs := fun x h => List.mem_of_mem_take h
  generalize vs.take (HT.sIx vs.length vs.length (some 4)) = ws at h21 hw21
  generalize hs.take (HT.sIx vs.length vs.length (some 4)) = gs at hw21 hsub
  have hL21 : SqL K H21 L cells := SqL.of (s21 _ _ hL20)
  have cL21 : ∀ v ∈ cells, CellAt K H21 dd v := fun v hv => (cL20 v hv).same s21
  refine ⟨p4, rfl, ⟨_, h21⟩, ?_⟩
  refine for_tup (xs := ws) (fun i σ H' => ∃ z7 z9 z10 z12 : Option V, σ = [some (.ref a), some (.ref d), some (.int (dd : Int)), some (.ref px), some (.ref pa), some (.ref pb), some (.ref L), z7, some (.int (M : Int)), z9, z10, z11, z12, none, none, none] ∧ Same H21 H') ⟨z7, z9, z10, none, rfl, Same.refl _⟩ ?_ ?_ ?_
  · rintro i σ H' _ ⟨_, _, _, _, rfl, s⟩
    exact s.sqt h21
  · rintro i v σ H22 hv ⟨y7, y9, y10, y12, rfl, s22⟩
    obtain ⟨xx, hxx, pxx⟩ := paired_at (hw21.same s22) hv
    obtain ⟨u, b, rfl, h1, h2⟩ := pxx
    have hmem := hsub xx (List.mem_of_getElem? hxx)
    have ok := hok xx hmem
    obtain ⟨pw, em, hS⟩ := ok.sr.ex
    have clen := ok.sr.len
    have n1 : 1 ≤ xx.1.m := by rw [← em]; exact mOf_pos hS.per.ok
    refine ⟨u, _, rfl, h1, rfl, _, _, rfl, _, _, rfl, rfl, ?_⟩
    refine ⟨_, rfl, L, rfl, ⟨_, s22.seq hL21⟩, for_list (xs := cells) (fun i σ H' => ∃ z7 z12 : Option V, σ = [some (.ref a), some (.ref d), some (.int (dd : Int)), some (.ref px), some (.ref pa), some (.ref pb), some (.ref L), z7, some (.int (M : Int)), some (.ref b), some (.int xx.2), z11, z12, none, none, none] ∧ Same H22 H') ⟨y7, y12, rfl, Same.refl _⟩ ?_ ?_ ?_⟩
    · rintro i σ H' _ ⟨_, _, rfl, s⟩
      exact s.seq (s22.seq hL21)
    · rintro i v σ H23 hv ⟨w7, w12, rfl, s23⟩
      have s223 := s22.trans s23
      obtain ⟨cc, ys, rfl, hc, yl, yb⟩ := ((cL21 v (List.mem_of_getElem? hv)).same s223).ex
      have yb2 : ∀ y ∈ ys, Bd 2000 y := fun y h => (yb y h).mono (by decide)
      obtain ⟨c, a1, a2⟩ := (SAt.mono h2 s23).at_
      refine ⟨_, rfl, b, _, 1, .ref c, rfl, rfl, a1, rfl, ?_⟩
      refine ⟨_, rfl, c, cc, xx.1.c, ys, rfl, a2, hc, by rw [clen, yl], by omega, hS.bd, yb2, fun H24 s24 => ?_⟩
      refine ⟨_, rfl, b, _, 2, .int xx.1.r, rfl, rfl, s24.sqt a1, rfl, _, _, rfl, rfl, .inl ⟨_, rfl, ?_⟩⟩
      refine ⟨_, rfl, b, _, 0, .int xx.1.m, rfl, rfl, s24.sqt a1, rfl, _, _, rfl, rfl, (by omega), rfl, _, rfl, ?_⟩
      have one : tintOf [xx] ys = if onS xx.1 ys = true then xx.2 else 0 := by rw [tint_cons, tint_nil, Int.add_zero]
      have rpo := Rp.int (i := tintOf [xx] ys) (tbd (gs := [xx]) (b := 140) (by show 1 ≤ 24; decide) (Nat.le_refl _) (fun x hx => by rw [List.mem_singleton.mp hx]; exact ok.tb) ys)
      have ok1 : HsOk dd [xx] := ⟨fun x hx => by rw [List.mem_singleton.mp hx]; exact ok.sr, fun x hx => by rw [List.mem_singleton.mp hx]; exact ok.nz, .cons (fun _ h => absurd h List.not_mem_nil) .nil⟩
      have fin : ∀ (due : Int), due = tintOf [xx] ys → tIfS
              (tTest
                (tOp rNe
                  (tCB (rReprA K)
                    (tCons
                      (tCall (sp_tint_at K) [] E0
                        (tCons (tTup (tCons (tTup (tCons (tVar 9) (tCons (tVar 10) tNil))) tNil))
                          (tCons (tVar 7) tNil)))
                      tNil))
                  (tCB (rReprA K) (tCons (tVar 12) tNil))))
              (tRet (tC (V.bl false))) tNext
              { nx := fun σ H' => ∃ z7 z12 : Option V, σ = [some (.ref a), some (.ref d), some (.int (dd : Int)), some (.ref px), some (.ref pa), some (.ref pb), some (.ref L), z7, some (.int (M : Int)), some (.ref b), some (.int xx.2), z11, z12, none, none, none] ∧ Same H22 H',
                rt := Q, bk := fun _ _ => False, ct := fun _ _ => False }
              [some (.ref a), some (.ref d), some (.int (dd : Int)), some (.ref px), some (.ref pa), some (.ref pb), some (.ref L), some (.ref cc), some (.int (M : Int)), some (.ref b), some (.int xx.2), z11, some (.int due), none, none, none] H24 := by
        rintro due rfl
        refine ⟨_, rfl, _, rfl, (by show 2 ≤ sizeLine; decide), fun pt npt => ?_⟩
        have s25 := same_new npt (.tup [.ref b, .int xx.2])
        refine ⟨(by show 1 ≤ sizeLine; decide), fun p1 np1 => ?_⟩
        have s26 := same_new np1 (.tup [.ref pt])
        have hp1 : SqT K (upd (upd H24 pt (.tup [.ref b, .int xx.2])) p1 (.tup [.ref pt])) p1 [.ref pt] := SqT.of upd_same
        have hpt : SqT K (upd H24 pt (.tup [.ref b, .int xx.2])) pt [.ref b, .int xx.2] := SqT.of upd_same
        have s246 := s24.trans (s25.trans s26)
        refine ⟨_, rfl, p1, cc, [xx], dd, ys, rfl, ⟨_, hp1, .cons ⟨pt, b, rfl, s26.sqt hpt, SAt.mono (SAt.mono h2 s23) s246⟩ .nil⟩, ok1, (by show 1 ≤ 10000; decide), s246.sqt hc, yl, d1, d3, yb2, fun H27 s27 => ?_⟩
        refine ⟨_, _, rfl, .int _, rpo.sh, rpo.nd, Nat.le_trans rpo.dp (by decide), Nat.le_trans rpo.ln (by decide), ?_⟩
        refine ⟨_, rfl, _, _, rfl, .int _, rpo.sh, rpo.nd, Nat.le_trans rpo.dp (by decide), Nat.le_trans rpo.ln (by decide), ?_⟩
        refine ⟨rfl, _, rfl, ite2 (fun c => ?_) (fun _ => ?_)⟩
        · simp at c
        · exact ⟨_, _, rfl, (s23.trans s246).trans s27⟩
      refine ite2 (fun cc => ?_) (fun cc => ?_)
      · have on : onS xx.1 ys = true := decide_eq_true (V.int.inj (of_decide_eq_true cc))
        rw [if_pos on] at one
        exact ⟨_, rfl, fin xx.2 one.symm⟩
      · have on : ¬ onS xx.1 ys = true := fun z => cc (decide_eq_true (congrArg V.int (of_decide_eq_true z)))
        rw [if_neg on] at one
        exact fin 0 one.symm
    · rintro σ H23 ⟨_, _, rfl, s23⟩
      exact ⟨_, _, _, _, rfl, s22.trans s23⟩
  · rintro σ H22 ⟨y7, y9, y10, y12, rfl, s22⟩
    refine ⟨(by show 3 ≤ sizeLine; decide), fun pq npq => ?_⟩
    have s23 := same_new npq (.tup [.int 1, .int 2, .int 3])
    have hq3 : SqT K (upd H22 pq (.tup [.int 1, .int 2, .int 3])) pq ([1, 2, 3].map V.int) := SqT.of upd_same
    generalize upd H22 pq (.tup [.int 1, .int 2, .int 3]) = H23 at s23 hq3
    refine ⟨pq, rfl, ⟨_, hq3⟩, fun D nD => lc_tup (xs := [1, 2, 3].map V.int) (Lc H23 D fun i => (List.replicate i (V.int 0))) (lc_start nD rfl) (fun _ _ _ h => h.1.sqt hq3) (fun i v H24 hv h => ?_) (fun H24 h => ?_)⟩
    · obtain ⟨k, rfl, k1, k3⟩ : ∃ k : Nat, v = .int (k : Int) ∧ 1 ≤ k ∧ k ≤ 3 := by
        have hm := List.mem_of_getElem? hv
        simp only [List.map_cons, List.map_nil, List.mem_cons, List.not_mem_nil, or_false] at hm
        rcases hm with rfl | rfl | rfl
        · exact ⟨1, rfl, by decide, by decide⟩
        · exact ⟨2, rfl, by decide, by decide⟩
        · exact ⟨3, rfl, by decide, by decide⟩
      have hi := (List.getElem?_eq_some_iff.mp hv).1
      refine ⟨rfl, yes_ (iteT ?_)⟩
      refine ⟨Nat.zero_le _, fun pe npe => ?_⟩
      have s25 := same_new npe (.tup [])
      refine ⟨(by show 1 ≤ sizeLine; decide), fun p1 np1 => ?_⟩
      have s26 := same_new np1 (.tup [.int 1])
      have hpe : SqT K (upd (upd H24 pe (.tup [])) p1 (.tup [.int 1])) pe [] := s26.sqt (SqT.of upd_same)
      have hp1 : SqT K (upd (upd H24 pe (.tup [])) p1 (.tup [.int 1])) p1 [.int 1] := SqT.of upd_same
      generalize upd (upd H24 pe (.tup [])) p1 (.tup [.int 1]) = H26 at s26 hpe hp1
      refine ⟨_, rfl, p1, (k : Int), [.int 1], rfl, rfl, hp1, by simp, by omega, by omega, by decide, fun pc H27 s27 hpc => ?_⟩
      have fl : (List.replicate (k : Int).toNat [V.int 1]).flatten = (List.replicate k (1 : Int)).map V.int := by
        rw [Int.toNat_natCast, List.map_replicate, List.flatten_replicate_singleton]
      rw [fl] at hpc
      refine ⟨pe, pc, [], k, List.replicate k 1, rfl, ⟨[], s27.sqt hpe, .nil⟩, ⟨fun _ h => absurd h List.not_mem_nil, fun _ h => absurd h List.not_mem_nil, .nil⟩, Nat.zero_le _, hpc, List.length_replicate, k1, k3, fun y hy => by rw [List.eq_of_mem_replicate hy]; unfold Bd; decide +kernel, fun H28 s28 => ?_⟩
      have st := ((s25.trans s26).trans s27).trans s28
      refine lc_leaf nD (h.1.trans st) (st _ _ h.2) (by rw [List.length_replicate]; exact Nat.le_trans (Nat.le_of_lt hi) (show 3 ≤ 100000 by decide)) ?_
      show List.replicate (i + 1) (V.int 0) = List.replicate i (V.int 0) ++ [V.int 0]
      exact List.replicate_succ'
    · have rp : Rp 6000 1 (.list ([0, 0, 0].map PyData.int)) := Rp.lst (n := 1921) (k := 0) (fun x hx => by
        obtain ⟨z, hz, rfl⟩ := List.mem_map.mp hx
        have : z = 0 := by simpa using hz
        subst this
        exact Rp.int (by decide)) (by decide)
      refine ⟨.ref D, _, rfl, .lst (SqL.of h.2) (dpAll_ints [0, 0, 0]), rp.sh, rp.nd, Nat.le_trans rp.dp (by decide), Nat.le_trans rp.ln (by decide), ?_⟩
      refine ⟨rfl, ?_⟩
      have e : decide (V.str (PyData.list (List.map PyData.int [0, 0, 0])).shown = V.str (Str.ofString "[0, 0, 0]")) = true := by decide +kernel
      rw [e]
      exact q _
end
end KL
namespace KL
open PySem PySem.Spec PyProof.Rows L2 RZ StX SrtO Kw KM
theorem mkb_tint_at_0_cell_heap {K : PySem.W.Frag} {a : Addr} {fd : FuncData} (F : Fun K "tint_at" "tint_at" s_tint_at a fd) : KBinds K fd ["heap", "cell"] ["cell", "heap"] gkb_tint_at_0_cell_heap gkb_tint_at_0_cell_heapV := by
  obtain ⟨oc, od, kV, doc, pm, an, cdv, ct, osl, rfl, lk, hcd⟩ := F.ex
  constructor
  · intro s us ws _ hl
    revert hl
    unfold gkb_tint_at_0_cell_heap
    split
    · intro _
      exact .of_eq rfl
    · intro hl
      cases hl
  · intro vs us zs ws h1 h2
    unfold gkb_tint_at_0_cell_heap gkb_tint_at_0_cell_heapV
    cases h1 with
    | nil =>
      cases h2 with
      | nil => exact .nil
      | cons k0 h2 =>
        cases h2 with
        | nil => exact .nil
        | cons k1 h2 =>
          cases h2 with
          | nil =>
            exact .cons k1 (.cons k0 (.nil))
          | cons _ _ => exact .nil
    | cons _ _ => exact .nil
theorem all_mk {K : PySem.W.Frag} {h : Heap} {mg : Str → Option Value} (X : K.In h) (G : h.Ns mainGlobals mg)
    {f0 : Addr} {od0 an0 : Option Addr} {sl0 : Array (Option Value)} {oc0 kV0 dc0 pm0 cd0 ct0 : Value}
    (a0 : PySem.W.nsIn K mainGlobals "is_integer" = some (some (.ref f0))) (l0 : K.lookup f0 = some ⟨oc0, od0, .func (PySem.W.fnOf "is_integer" "is_integer" (defArgs s_is_integer) (defBody s_is_integer) (defScope s_is_integer) .none kV0 dc0 pm0 an0 cd0 ct0), sl0⟩)
    (c0 : PySem.W.codeIn K cd0 "is_integer" = true) (k0 : PySem.W.keepIn K (.ref f0) = true)
    {f1 : Addr} {od1 an1 : Option Addr} {sl1 : Array (Option Value)} {oc1 kV1 dc1 pm1 cd1 ct1 : Value}
    (a1 : PySem.W.nsIn K mainGlobals "primes_of" = some (some (.ref f1))) (l1 : K.lookup f1 = some ⟨oc1, od1, .func (PySem.W.fnOf "primes_of" "primes_of" (defArgs s_primes_of) (defBody s_primes_of) (defScope s_primes_of) .none kV1 dc1 pm1 an1 cd1 ct1), sl1⟩)
    (c1 : PySem.W.codeIn K cd1 "primes_of" = true) (k1 : PySem.W.keepIn K (.ref f1) = true)
    {f2 : Addr} {od2 an2 : Option Addr} {sl2 : Array (Option Value)} {oc2 kV2 dc2 pm2 cd2 ct2 : Value}
    (a2 : PySem.W.nsIn K mainGlobals "part_at" = some (some (.ref f2))) (l2 : K.lookup f2 = some ⟨oc2, od2, .func (PySem.W.fnOf "part_at" "part_at" (defArgs s_part_at) (defBody s_part_at) (defScope s_part_at) .none kV2 dc2 pm2 an2 cd2 ct2), sl2⟩)
    (c2 : PySem.W.codeIn K cd2 "part_at" = true) (k2 : PySem.W.keepIn K (.ref f2) = true)
    {f3 : Addr} {od3 an3 : Option Addr} {sl3 : Array (Option Value)} {oc3 kV3 dc3 pm3 cd3 ct3 : Value}
    (a3 : PySem.W.nsIn K mainGlobals "common_divisor" = some (some (.ref f3))) (l3 : K.lookup f3 = some ⟨oc3, od3, .func (PySem.W.fnOf "common_divisor" "common_divisor" (defArgs s_common_divisor) (defBody s_common_divisor) (defScope s_common_divisor) .none kV3 dc3 pm3 an3 cd3 ct3), sl3⟩)
    (c3 : PySem.W.codeIn K cd3 "common_divisor" = true) (k3 : PySem.W.keepIn K (.ref f3) = true)
    {f4 : Addr} {od4 an4 : Option Addr} {sl4 : Array (Option Value)} {oc4 kV4 dc4 pm4 cd4 ct4 : Value}
    (a4 : PySem.W.nsIn K mainGlobals "is_period" = some (some (.ref f4))) (l4 : K.lookup f4 = some ⟨oc4, od4, .func (PySem.W.fnOf "is_period" "is_period" (defArgs s_is_period) (defBody s_is_period) (defScope s_is_period) .none kV4 dc4 pm4 an4 cd4 ct4), sl4⟩)
    (c4 : PySem.W.codeIn K cd4 "is_period" = true) (k4 : PySem.W.keepIn K (.ref f4) = true)
    {f5 : Addr} {od5 an5 : Option Addr} {sl5 : Array (Option Value)} {oc5 kV5 dc5 pm5 cd5 ct5 : Value}
    (a5 : PySem.W.nsIn K mainGlobals "is_cell" = some (some (.ref f5))) (l5 : K.lookup f5 = some ⟨oc5, od5, .func (PySem.W.fnOf "is_cell" "is_cell" (defArgs s_is_cell) (defBody s_is_cell) (defScope s_is_cell) .none kV5 dc5 pm5 an5 cd5 ct5), sl5⟩)
    (c5 : PySem.W.codeIn K cd5 "is_cell" = true) (k5 : PySem.W.keepIn K (.ref f5) = true)
    {f6 : Addr} {od6 an6 : Option Addr} {sl6 : Array (Option Value)} {oc6 kV6 dc6 pm6 cd6 ct6 : Value}
    (a6 : PySem.W.nsIn K mainGlobals "is_stripe" = some (some (.ref f6))) (l6 : K.lookup f6 = some ⟨oc6, od6, .func (PySem.W.fnOf "is_stripe" "is_stripe" (defArgs s_is_stripe) (defBody s_is_stripe) (defScope s_is_stripe) .none kV6 dc6 pm6 an6 cd6 ct6), sl6⟩)
    (c6 : PySem.W.codeIn K cd6 "is_stripe" = true) (k6 : PySem.W.keepIn K (.ref f6) = true)
    {f7 : Addr} {od7 an7 : Option Addr} {sl7 : Array (Option Value)} {oc7 kV7 dc7 pm7 cd7 ct7 : Value}
    (a7 : PySem.W.nsIn K mainGlobals "is_on" = some (some (.ref f7))) (l7 : K.lookup f7 = some ⟨oc7, od7, .func (PySem.W.fnOf "is_on" "is_on" (defArgs s_is_on) (defBody s_is_on) (defScope s_is_on) .none kV7 dc7 pm7 an7 cd7 ct7), sl7⟩)
    (c7 : PySem.W.codeIn K cd7 "is_on" = true) (k7 : PySem.W.keepIn K (.ref f7) = true)
    {f8 : Addr} {od8 an8 : Option Addr} {sl8 : Array (Option Value)} {oc8 kV8 dc8 pm8 cd8 ct8 : Value}
    (a8 : PySem.W.nsIn K mainGlobals "lies_on" = some (some (.ref f8))) (l8 : K.lookup f8 = some ⟨oc8, od8, .func (PySem.W.fnOf "lies_on" "lies_on" (defArgs s_lies_on) (defBody s_lies_on) (defScope s_lies_on) .none kV8 dc8 pm8 an8 cd8 ct8), sl8⟩)
    (c8 : PySem.W.codeIn K cd8 "lies_on" = true) (k8 : PySem.W.keepIn K (.ref f8) = true)
    {f9 : Addr} {od9 an9 : Option Addr} {sl9 : Array (Option Value)} {oc9 kV9 dc9 pm9 cd9 ct9 : Value}
    (a9 : PySem.W.nsIn K mainGlobals "dot" = some (some (.ref f9))) (l9 : K.lookup f9 = some ⟨oc9, od9, .func (PySem.W.fnOf "dot" "dot" (defArgs s_dot) (defBody s_dot) (defScope s_dot) .none kV9 dc9 pm9 an9 cd9 ct9), sl9⟩)
    (c9 : PySem.W.codeIn K cd9 "dot" = true) (k9 : PySem.W.keepIn K (.ref f9) = true)
    {f10 : Addr} {od10 an10 : Option Addr} {sl10 : Array (Option Value)} {oc10 kV10 dc10 pm10 cd10 ct10 : Value}
    (a10 : PySem.W.nsIn K mainGlobals "check_stripe" = some (some (.ref f10))) (l10 : K.lookup f10 = some ⟨oc10, od10, .func (PySem.W.fnOf "check_stripe" "check_stripe" (defArgs s_check_stripe) (defBody s_check_stripe) (defScope s_check_stripe) .none kV10 dc10 pm10 an10 cd10 ct10), sl10⟩)
    (c10 : PySem.W.codeIn K cd10 "check_stripe" = true) (k10 : PySem.W.keepIn K (.ref f10) = true)
    {f11 : Addr} {od11 an11 : Option Addr} {sl11 : Array (Option Value)} {oc11 kV11 dc11 pm11 cd11 ct11 : Value}
    (a11 : PySem.W.nsIn K mainGlobals "is_heap" = some (some (.ref f11))) (l11 : K.lookup f11 = some ⟨oc11, od11, .func (PySem.W.fnOf "is_heap" "is_heap" (defArgs s_is_heap) (defBody s_is_heap) (defScope s_is_heap) .none kV11 dc11 pm11 an11 cd11 ct11), sl11⟩)
    (c11 : PySem.W.codeIn K cd11 "is_heap" = true) (k11 : PySem.W.keepIn K (.ref f11) = true)
    {f12 : Addr} {od12 an12 : Option Addr} {sl12 : Array (Option Value)} {oc12 kV12 dc12 pm12 cd12 ct12 : Value}
    (a12 : PySem.W.nsIn K mainGlobals "is_stripe_with_tint" = some (some (.ref f12))) (l12 : K.lookup f12 = some ⟨oc12, od12, .func (PySem.W.fnOf "is_stripe_with_tint" "is_stripe_with_tint" (defArgs s_is_stripe_with_tint) (defBody s_is_stripe_with_tint) (defScope s_is_stripe_with_tint) .none kV12 dc12 pm12 an12 cd12 ct12), sl12⟩)
    (c12 : PySem.W.codeIn K cd12 "is_stripe_with_tint" = true) (k12 : PySem.W.keepIn K (.ref f12) = true)
    {f13 : Addr} {od13 an13 : Option Addr} {sl13 : Array (Option Value)} {oc13 kV13 dc13 pm13 cd13 ct13 : Value}
    (a13 : PySem.W.nsIn K mainGlobals "tint_at" = some (some (.ref f13))) (l13 : K.lookup f13 = some ⟨oc13, od13, .func (PySem.W.fnOf "tint_at" "tint_at" (defArgs s_tint_at) (defBody s_tint_at) (defScope s_tint_at) .none kV13 dc13 pm13 an13 cd13 ct13), sl13⟩)
    (c13 : PySem.W.codeIn K cd13 "tint_at" = true) (k13 : PySem.W.keepIn K (.ref f13) = true)
    {f14 : Addr} {od14 an14 : Option Addr} {sl14 : Array (Option Value)} {oc14 kV14 dc14 pm14 cd14 ct14 : Value}
    (a14 : PySem.W.nsIn K mainGlobals "has_breadth" = some (some (.ref f14))) (l14 : K.lookup f14 = some ⟨oc14, od14, .func (PySem.W.fnOf "has_breadth" "has_breadth" (defArgs s_has_breadth) (defBody s_has_breadth) (defScope s_has_breadth) .none kV14 dc14 pm14 an14 cd14 ct14), sl14⟩)
    (c14 : PySem.W.codeIn K cd14 "has_breadth" = true) (k14 : PySem.W.keepIn K (.ref f14) = true)
    {f15 : Addr} {od15 an15 : Option Addr} {sl15 : Array (Option Value)} {oc15 kV15 dc15 pm15 cd15 ct15 : Value}
    (a15 : PySem.W.nsIn K mainGlobals "tint_on" = some (some (.ref f15))) (l15 : K.lookup f15 = some ⟨oc15, od15, .func (PySem.W.fnOf "tint_on" "tint_on" (defArgs s_tint_on) (defBody s_tint_on) (defScope s_tint_on) .none kV15 dc15 pm15 an15 cd15 ct15), sl15⟩)
    (c15 : PySem.W.codeIn K cd15 "tint_on" = true) (k15 : PySem.W.keepIn K (.ref f15) = true)
    {f16 : Addr} {od16 an16 : Option Addr} {sl16 : Array (Option Value)} {oc16 kV16 dc16 pm16 cd16 ct16 : Value}
    (a16 : PySem.W.nsIn K mainGlobals "check_heap" = some (some (.ref f16))) (l16 : K.lookup f16 = some ⟨oc16, od16, .func (PySem.W.fnOf "check_heap" "check_heap" (defArgs s_check_heap) (defBody s_check_heap) (defScope s_check_heap) .none kV16 dc16 pm16 an16 cd16 ct16), sl16⟩)
    (c16 : PySem.W.codeIn K cd16 "check_heap" = true) (k16 : PySem.W.keepIn K (.ref f16) = true)
    {f17 : Addr} {od17 an17 : Option Addr} {sl17 : Array (Option Value)} {oc17 kV17 dc17 pm17 cd17 ct17 : Value}
    (a17 : PySem.W.nsIn K mainGlobals "check_cell" = some (some (.ref f17))) (l17 : K.lookup f17 = some ⟨oc17, od17, .func (PySem.W.fnOf "check_cell" "check_cell" (defArgs s_check_cell) (defBody s_check_cell) (defScope s_check_cell) .none kV17 dc17 pm17 an17 cd17 ct17), sl17⟩)
    (c17 : PySem.W.codeIn K cd17 "check_cell" = true) (k17 : PySem.W.keepIn K (.ref f17) = true)
    {f18 : Addr} {od18 an18 : Option Addr} {sl18 : Array (Option Value)} {oc18 kV18 dc18 pm18 cd18 ct18 : Value}
    (a18 : PySem.W.nsIn K mainGlobals "_law_deck" = some (some (.ref f18))) (l18 : K.lookup f18 = some ⟨oc18, od18, .func (PySem.W.fnOf "_law_deck" "_law_deck" (defArgs s__law_deck) (defBody s__law_deck) (defScope s__law_deck) .none kV18 dc18 pm18 an18 cd18 ct18), sl18⟩)
    (c18 : PySem.W.codeIn K cd18 "_law_deck" = true) (k18 : PySem.W.keepIn K (.ref f18) = true)
    {f19 : Addr} {od19 an19 : Option Addr} {sl19 : Array (Option Value)} {oc19 kV19 dc19 pm19 cd19 ct19 : Value}
    (a19 : PySem.W.nsIn K mainGlobals "_law_draw" = some (some (.ref f19))) (l19 : K.lookup f19 = some ⟨oc19, od19, .func (PySem.W.fnOf "_law_draw" "_law_draw" (defArgs s__law_draw) (defBody s__law_draw) (defScope s__law_draw) .none kV19 dc19 pm19 an19 cd19 ct19), sl19⟩)
    (c19 : PySem.W.codeIn K cd19 "_law_draw" = true) (k19 : PySem.W.keepIn K (.ref f19) = true)
    {f20 : Addr} {od20 an20 : Option Addr} {sl20 : Array (Option Value)} {oc20 kV20 dc20 pm20 cd20 ct20 : Value}
    (a20 : PySem.W.nsIn K mainGlobals "_law_pick" = some (some (.ref f20))) (l20 : K.lookup f20 = some ⟨oc20, od20, .func (PySem.W.fnOf "_law_pick" "_law_pick" (defArgs s__law_pick) (defBody s__law_pick) (defScope s__law_pick) .none kV20 dc20 pm20 an20 cd20 ct20), sl20⟩)
    (c20 : PySem.W.codeIn K cd20 "_law_pick" = true) (k20 : PySem.W.keepIn K (.ref f20) = true)
    {f21 : Addr} {od21 an21 : Option Addr} {sl21 : Array (Option Value)} {oc21 kV21 dc21 pm21 cd21 ct21 : Value}
    (a21 : PySem.W.nsIn K mainGlobals "_law_great" = some (some (.ref f21))) (l21 : K.lookup f21 = some ⟨oc21, od21, .func (PySem.W.fnOf "_law_great" "_law_great" (defArgs s__law_great) (defBody s__law_great) (defScope s__law_great) .none kV21 dc21 pm21 an21 cd21 ct21), sl21⟩)
    (c21 : PySem.W.codeIn K cd21 "_law_great" = true) (k21 : PySem.W.keepIn K (.ref f21) = true)
    {f22 : Addr} {od22 an22 : Option Addr} {sl22 : Array (Option Value)} {oc22 kV22 dc22 pm22 cd22 ct22 : Value}
    (a22 : PySem.W.nsIn K mainGlobals "_law_signed" = some (some (.ref f22))) (l22 : K.lookup f22 = some ⟨oc22, od22, .func (PySem.W.fnOf "_law_signed" "_law_signed" (defArgs s__law_signed) (defBody s__law_signed) (defScope s__law_signed) .none kV22 dc22 pm22 an22 cd22 ct22), sl22⟩)
    (c22 : PySem.W.codeIn K cd22 "_law_signed" = true) (k22 : PySem.W.keepIn K (.ref f22) = true)
    {f23 : Addr} {od23 an23 : Option Addr} {sl23 : Array (Option Value)} {oc23 kV23 dc23 pm23 cd23 ct23 : Value}
    (a23 : PySem.W.nsIn K mainGlobals "_law_powers" = some (some (.ref f23))) (l23 : K.lookup f23 = some ⟨oc23, od23, .func (PySem.W.fnOf "_law_powers" "_law_powers" (defArgs s__law_powers) (defBody s__law_powers) (defScope s__law_powers) .none kV23 dc23 pm23 an23 cd23 ct23), sl23⟩)
    (c23 : PySem.W.codeIn K cd23 "_law_powers" = true) (k23 : PySem.W.keepIn K (.ref f23) = true)
    {f24 : Addr} {od24 an24 : Option Addr} {sl24 : Array (Option Value)} {oc24 kV24 dc24 pm24 cd24 ct24 : Value}
    (a24 : PySem.W.nsIn K mainGlobals "_law_product" = some (some (.ref f24))) (l24 : K.lookup f24 = some ⟨oc24, od24, .func (PySem.W.fnOf "_law_product" "_law_product" (defArgs s__law_product) (defBody s__law_product) (defScope s__law_product) .none kV24 dc24 pm24 an24 cd24 ct24), sl24⟩)
    (c24 : PySem.W.codeIn K cd24 "_law_product" = true) (k24 : PySem.W.keepIn K (.ref f24) = true)
    {f25 : Addr} {od25 an25 : Option Addr} {sl25 : Array (Option Value)} {oc25 kV25 dc25 pm25 cd25 ct25 : Value}
    (a25 : PySem.W.nsIn K mainGlobals "_law_numbers" = some (some (.ref f25))) (l25 : K.lookup f25 = some ⟨oc25, od25, .func (PySem.W.fnOf "_law_numbers" "_law_numbers" (defArgs s__law_numbers) (defBody s__law_numbers) (defScope s__law_numbers) .none kV25 dc25 pm25 an25 cd25 ct25), sl25⟩)
    (c25 : PySem.W.codeIn K cd25 "_law_numbers" = true) (k25 : PySem.W.keepIn K (.ref f25) = true)
    {f26 : Addr} {od26 an26 : Option Addr} {sl26 : Array (Option Value)} {oc26 kV26 dc26 pm26 cd26 ct26 : Value}
    (a26 : PySem.W.nsIn K mainGlobals "_law_unit" = some (some (.ref f26))) (l26 : K.lookup f26 = some ⟨oc26, od26, .func (PySem.W.fnOf "_law_unit" "_law_unit" (defArgs s__law_unit) (defBody s__law_unit) (defScope s__law_unit) .none kV26 dc26 pm26 an26 cd26 ct26), sl26⟩)
    (c26 : PySem.W.codeIn K cd26 "_law_unit" = true) (k26 : PySem.W.keepIn K (.ref f26) = true)
    {f27 : Addr} {od27 an27 : Option Addr} {sl27 : Array (Option Value)} {oc27 kV27 dc27 pm27 cd27 ct27 : Value}
    (a27 : PySem.W.nsIn K mainGlobals "_law_along" = some (some (.ref f27))) (l27 : K.lookup f27 = some ⟨oc27, od27, .func (PySem.W.fnOf "_law_along" "_law_along" (defArgs s__law_along) (defBody s__law_along) (defScope s__law_along) .none kV27 dc27 pm27 an27 cd27 ct27), sl27⟩)
    (c27 : PySem.W.codeIn K cd27 "_law_along" = true) (k27 : PySem.W.keepIn K (.ref f27) = true)
    {f28 : Addr} {od28 an28 : Option Addr} {sl28 : Array (Option Value)} {oc28 kV28 dc28 pm28 cd28 ct28 : Value}
    (a28 : PySem.W.nsIn K mainGlobals "_law_common" = some (some (.ref f28))) (l28 : K.lookup f28 = some ⟨oc28, od28, .func (PySem.W.fnOf "_law_common" "_law_common" (defArgs s__law_common) (defBody s__law_common) (defScope s__law_common) .none kV28 dc28 pm28 an28 cd28 ct28), sl28⟩)
    (c28 : PySem.W.codeIn K cd28 "_law_common" = true) (k28 : PySem.W.keepIn K (.ref f28) = true)
    {f29 : Addr} {od29 an29 : Option Addr} {sl29 : Array (Option Value)} {oc29 kV29 dc29 pm29 cd29 ct29 : Value}
    (a29 : PySem.W.nsIn K mainGlobals "_law_tint" = some (some (.ref f29))) (l29 : K.lookup f29 = some ⟨oc29, od29, .func (PySem.W.fnOf "_law_tint" "_law_tint" (defArgs s__law_tint) (defBody s__law_tint) (defScope s__law_tint) .none kV29 dc29 pm29 an29 cd29 ct29), sl29⟩)
    (c29 : PySem.W.codeIn K cd29 "_law_tint" = true) (k29 : PySem.W.keepIn K (.ref f29) = true)
    {f30 : Addr} {od30 an30 : Option Addr} {sl30 : Array (Option Value)} {oc30 kV30 dc30 pm30 cd30 ct30 : Value}
    (a30 : PySem.W.nsIn K mainGlobals "_law_by" = some (some (.ref f30))) (l30 : K.lookup f30 = some ⟨oc30, od30, .func (PySem.W.fnOf "_law_by" "_law_by" (defArgs s__law_by) (defBody s__law_by) (defScope s__law_by) .none kV30 dc30 pm30 an30 cd30 ct30), sl30⟩)
    (c30 : PySem.W.codeIn K cd30 "_law_by" = true) (k30 : PySem.W.keepIn K (.ref f30) = true)
    {f31 : Addr} {od31 an31 : Option Addr} {sl31 : Array (Option Value)} {oc31 kV31 dc31 pm31 cd31 ct31 : Value}
    (a31 : PySem.W.nsIn K mainGlobals "_law_heaps" = some (some (.ref f31))) (l31 : K.lookup f31 = some ⟨oc31, od31, .func (PySem.W.fnOf "_law_heaps" "_law_heaps" (defArgs s__law_heaps) (defBody s__law_heaps) (defScope s__law_heaps) .none kV31 dc31 pm31 an31 cd31 ct31), sl31⟩)
    (c31 : PySem.W.codeIn K cd31 "_law_heaps" = true) (k31 : PySem.W.keepIn K (.ref f31) = true)
    {f32 : Addr} {od32 an32 : Option Addr} {sl32 : Array (Option Value)} {oc32 kV32 dc32 pm32 cd32 ct32 : Value}
    (a32 : PySem.W.nsIn K mainGlobals "_law_is_due" = some (some (.ref f32))) (l32 : K.lookup f32 = some ⟨oc32, od32, .func (PySem.W.fnOf "_law_is_due" "_law_is_due" (defArgs s__law_is_due) (defBody s__law_is_due) (defScope s__law_is_due) .none kV32 dc32 pm32 an32 cd32 ct32), sl32⟩)
    (c32 : PySem.W.codeIn K cd32 "_law_is_due" = true) (k32 : PySem.W.keepIn K (.ref f32) = true)
    {f33 : Addr} {od33 an33 : Option Addr} {sl33 : Array (Option Value)} {oc33 kV33 dc33 pm33 cd33 ct33 : Value}
    (a33 : PySem.W.nsIn K mainGlobals "_law_near" = some (some (.ref f33))) (l33 : K.lookup f33 = some ⟨oc33, od33, .func (PySem.W.fnOf "_law_near" "_law_near" (defArgs s__law_near) (defBody s__law_near) (defScope s__law_near) .none kV33 dc33 pm33 an33 cd33 ct33), sl33⟩)
    (c33 : PySem.W.codeIn K cd33 "_law_near" = true) (k33 : PySem.W.keepIn K (.ref f33) = true)
    {f34 : Addr} {od34 an34 : Option Addr} {sl34 : Array (Option Value)} {oc34 kV34 dc34 pm34 cd34 ct34 : Value}
    (a34 : PySem.W.nsIn K mainGlobals "law" = some (some (.ref f34))) (l34 : K.lookup f34 = some ⟨oc34, od34, .func (PySem.W.fnOf "law" "law" (defArgs s_law) (defBody s_law) (defScope s_law) .none kV34 dc34 pm34 an34 cd34 ct34), sl34⟩)
    (c34 : PySem.W.codeIn K cd34 "law" = true) (k34 : PySem.W.keepIn K (.ref f34) = true)
    (z0 : PySem.W.nsIn K mainGlobals "abs" = some none)
    (z1 : PySem.W.nsIn K mainGlobals "all" = some none)
    (z2 : PySem.W.nsIn K mainGlobals "bool" = some none)
    (z3 : PySem.W.nsIn K mainGlobals "int" = some none)
    (z4 : PySem.W.nsIn K mainGlobals "isinstance" = some none)
    (z5 : PySem.W.nsIn K mainGlobals "len" = some none)
    (z6 : PySem.W.nsIn K mainGlobals "list" = some none)
    (z7 : PySem.W.nsIn K mainGlobals "max" = some none)
    (z8 : PySem.W.nsIn K mainGlobals "range" = some none)
    (z9 : PySem.W.nsIn K mainGlobals "repr" = some none)
    (z10 : PySem.W.nsIn K mainGlobals "sorted" = some none)
    (z11 : PySem.W.nsIn K mainGlobals "sum" = some none)
    (z12 : PySem.W.nsIn K mainGlobals "tuple" = some none)
    (z13 : PySem.W.nsIn K mainGlobals "zip" = some none)
    (b0 : PySem.W.nsIn K mainGlobals "gcd" = some (some (.builtin "math.gcd")))
    (v0 : PySem.W.nsIn K mainGlobals "PRIMES" = some (some (.ref (He.ga K "PRIMES")))) (w0 : He.tupB K "PRIMES" (([2, 3, 5, 7, 11, 13, 17, 19, 23, 29] : List Int).map He.Dv.int) = true)
    {t1 : Tok} (v1 : PySem.W.nsIn K mainGlobals "MOST_BREADTH" = some (some (.int 3 t1)))
    {t2 : Tok} (v2 : PySem.W.nsIn K mainGlobals "MOST_PRIMES_MULTIPLIED" = some (some (.int 1000 t2)))
    : Nonempty (Txt K mg) := by
  have F0 := fun_mk (st := s_is_integer) l0 c0 k0
  have F1 := fun_mk (st := s_primes_of) l1 c1 k1
  have F2 := fun_mk (st := s_part_at) l2 c2 k2
  have F3 := fun_mk (st := s_common_divisor) l3 c3 k3
  have F4 := fun_mk (st := s_is_period) l4 c4 k4
  have F5 := fun_mk (st := s_is_cell) l5 c5 k5
  have F6 := fun_mk (st := s_is_stripe) l6 c6 k6
  have F7 := fun_mk (st := s_is_on) l7 c7 k7
  have F8 := fun_mk (st := s_lies_on) l8 c8 k8
  have F9 := fun_mk (st := s_dot) l9 c9 k9
  have F10 := fun_mk (st := s_check_stripe) l10 c10 k10
  have F11 := fun_mk (st := s_is_heap) l11 c11 k11
  have F12 := fun_mk (st := s_is_stripe_with_tint) l12 c12 k12
  have F13 := fun_mk (st := s_tint_at) l13 c13 k13
  have F14 := fun_mk (st := s_has_breadth) l14 c14 k14
  have F15 := fun_mk (st := s_tint_on) l15 c15 k15
  have F16 := fun_mk (st := s_check_heap) l16 c16 k16
  have F17 := fun_mk (st := s_check_cell) l17 c17 k17
  have F18 := fun_mk (st := s__law_deck) l18 c18 k18
  have F19 := fun_mk (st := s__law_draw) l19 c19 k19
  have F20 := fun_mk (st := s__law_pick) l20 c20 k20
  have F21 := fun_mk (st := s__law_great) l21 c21 k21
  have F22 := fun_mk (st := s__law_signed) l22 c22 k22
  have F23 := fun_mk (st := s__law_powers) l23 c23 k23
  have F24 := fun_mk (st := s__law_product) l24 c24 k24
  have F25 := fun_mk (st := s__law_numbers) l25 c25 k25
  have F26 := fun_mk (st := s__law_unit) l26 c26 k26
  have F27 := fun_mk (st := s__law_along) l27 c27 k27
  have F28 := fun_mk (st := s__law_common) l28 c28 k28
  have F29 := fun_mk (st := s__law_tint) l29 c29 k29
  have F30 := fun_mk (st := s__law_by) l30 c30 k30
  have F31 := fun_mk (st := s__law_heaps) l31 c31 k31
  have F32 := fun_mk (st := s__law_is_due) l32 c32 k32
  have F33 := fun_mk (st := s__law_near) l33 c33 k33
  have F34 := fun_mk (st := s_law) l34 c34 k34
  exact ⟨{
    a_is_integer := f0
    d_is_integer := _
    F_is_integer := F0
    m_is_integer := PySem.W.mg_of X G a0
    b_is_integer := F0.binds (ps := ["thing"]) fun _ _ _ _ _ _ us hl => match us, hl with | [_], _ => rfl
    a_primes_of := f1
    d_primes_of := _
    F_primes_of := F1
    m_primes_of := PySem.W.mg_of X G a1
    b_primes_of := F1.binds (ps := ["number"]) fun _ _ _ _ _ _ us hl => match us, hl with | [_], _ => rfl
    a_part_at := f2
    d_part_at := _
    F_part_at := F2
    m_part_at := PySem.W.mg_of X G a2
    b_part_at := F2.binds (ps := ["number", "p"]) fun _ _ _ _ _ _ us hl => match us, hl with | [_, _], _ => rfl
    a_common_divisor := f3
    d_common_divisor := _
    F_common_divisor := F3
    m_common_divisor := PySem.W.mg_of X G a3
    b_common_divisor := F3.binds (ps := ["number", "others"]) fun _ _ _ _ _ _ us hl => match us, hl with | [_, _], _ => rfl
    a_is_period := f4
    d_is_period := _
    F_is_period := F4
    m_is_period := PySem.W.mg_of X G a4
    b_is_period := F4.binds (ps := ["thing"]) fun _ _ _ _ _ _ us hl => match us, hl with | [_], _ => rfl
    a_is_cell := f5
    d_is_cell := _
    F_is_cell := F5
    m_is_cell := PySem.W.mg_of X G a5
    b_is_cell := F5.binds (ps := ["thing"]) fun _ _ _ _ _ _ us hl => match us, hl with | [_], _ => rfl
    a_is_stripe := f6
    d_is_stripe := _
    F_is_stripe := F6
    m_is_stripe := PySem.W.mg_of X G a6
    b_is_stripe := F6.binds (ps := ["thing"]) fun _ _ _ _ _ _ us hl => match us, hl with | [_], _ => rfl
    a_is_on := f7
    d_is_on := _
    F_is_on := F7
    m_is_on := PySem.W.mg_of X G a7
    b_is_on := F7.binds (ps := ["stripe", "cell"]) fun _ _ _ _ _ _ us hl => match us, hl with | [_, _], _ => rfl
    a_lies_on := f8
    d_lies_on := _
    F_lies_on := F8
    m_lies_on := PySem.W.mg_of X G a8
    b_lies_on := F8.binds (ps := ["stripe", "cell"]) fun _ _ _ _ _ _ us hl => match us, hl with | [_, _], _ => rfl
    a_dot := f9
    d_dot := _
    F_dot := F9
    m_dot := PySem.W.mg_of X G a9
    b_dot := F9.binds (ps := ["c", "x"]) fun _ _ _ _ _ _ us hl => match us, hl with | [_, _], _ => rfl
    a_check_stripe := f10
    d_check_stripe := _
    F_check_stripe := F10
    m_check_stripe := PySem.W.mg_of X G a10
    b_check_stripe := F10.binds (ps := ["thing"]) fun _ _ _ _ _ _ us hl => match us, hl with | [_], _ => rfl
    a_is_heap := f11
    d_is_heap := _
    F_is_heap := F11
    m_is_heap := PySem.W.mg_of X G a11
    b_is_heap := F11.binds (ps := ["thing"]) fun _ _ _ _ _ _ us hl => match us, hl with | [_], _ => rfl
    a_is_stripe_with_tint := f12
    d_is_stripe_with_tint := _
    F_is_stripe_with_tint := F12
    m_is_stripe_with_tint := PySem.W.mg_of X G a12
    b_is_stripe_with_tint := F12.binds (ps := ["thing"]) fun _ _ _ _ _ _ us hl => match us, hl with | [_], _ => rfl
    a_tint_at := f13
    d_tint_at := _
    F_tint_at := F13
    m_tint_at := PySem.W.mg_of X G a13
    b_tint_at := F13.binds (ps := ["heap", "cell"]) fun _ _ _ _ _ _ us hl => match us, hl with | [_, _], _ => rfl
    a_has_breadth := f14
    d_has_breadth := _
    F_has_breadth := F14
    m_has_breadth := PySem.W.mg_of X G a14
    b_has_breadth := F14.binds (ps := ["heap", "breadth"]) fun _ _ _ _ _ _ us hl => match us, hl with | [_, _], _ => rfl
    a_tint_on := f15
    d_tint_on := _
    F_tint_on := F15
    m_tint_on := PySem.W.mg_of X G a15
    b_tint_on := F15.binds (ps := ["heap", "cell"]) fun _ _ _ _ _ _ us hl => match us, hl with | [_, _], _ => rfl
    a_check_heap := f16
    d_check_heap := _
    F_check_heap := F16
    m_check_heap := PySem.W.mg_of X G a16
    b_check_heap := F16.binds (ps := ["thing"]) fun _ _ _ _ _ _ us hl => match us, hl with | [_], _ => rfl
    a_check_cell := f17
    d_check_cell := _
    F_check_cell := F17
    m_check_cell := PySem.W.mg_of X G a17
    b_check_cell := F17.binds (ps := ["heap", "thing"]) fun _ _ _ _ _ _ us hl => match us, hl with | [_, _], _ => rfl
    a__law_deck := f18
    d__law_deck := _
    F__law_deck := F18
    m__law_deck := PySem.W.mg_of X G a18
    b__law_deck := F18.binds (ps := ["_law_script"]) fun _ _ _ _ _ _ us hl => match us, hl with | [_], _ => rfl
    a__law_draw := f19
    d__law_draw := _
    F__law_draw := F19
    m__law_draw := PySem.W.mg_of X G a19
    b__law_draw := F19.binds (ps := ["_law_deck_here", "_law_many"]) fun _ _ _ _ _ _ us hl => match us, hl with | [_, _], _ => rfl
    a__law_pick := f20
    d__law_pick := _
    F__law_pick := F20
    m__law_pick := PySem.W.mg_of X G a20
    b__law_pick := F20.binds (ps := ["_law_deck_here", "_law_some"]) fun _ _ _ _ _ _ us hl => match us, hl with | [_, _], _ => rfl
    a__law_great := f21
    d__law_great := _
    F__law_great := F21
    m__law_great := PySem.W.mg_of X G a21
    b__law_great := F21.binds (ps := ["_law_deck_here", "_law_top"]) fun _ _ _ _ _ _ us hl => match us, hl with | [_, _], _ => rfl
    a__law_signed := f22
    d__law_signed := _
    F__law_signed := F22
    m__law_signed := PySem.W.mg_of X G a22
    b__law_signed := F22.binds (ps := ["_law_deck_here", "_law_top"]) fun _ _ _ _ _ _ us hl => match us, hl with | [_, _], _ => rfl
    a__law_powers := f23
    d__law_powers := _
    F__law_powers := F23
    m__law_powers := PySem.W.mg_of X G a23
    b__law_powers := F23.binds (ps := ["_law_deck_here", "_law_top", "_law_most"]) fun _ _ _ _ _ _ us hl => match us, hl with | [_, _, _], _ => rfl
    a__law_product := f24
    d__law_product := _
    F__law_product := F24
    m__law_product := PySem.W.mg_of X G a24
    b__law_product := F24.binds (ps := ["_law_some"]) fun _ _ _ _ _ _ us hl => match us, hl with | [_], _ => rfl
    a__law_numbers := f25
    d__law_numbers := _
    F__law_numbers := F25
    m__law_numbers := PySem.W.mg_of X G a25
    b__law_numbers := F25.binds (ps := ["_law_deck_here", "_law_powers_here", "_law_m", "_law_d"]) fun _ _ _ _ _ _ us hl => match us, hl with | [_, _, _, _], _ => rfl
    a__law_unit := f26
    d__law_unit := _
    F__law_unit := F26
    m__law_unit := PySem.W.mg_of X G a26
    b__law_unit := F26.binds (ps := ["_law_deck_here", "_law_powers_here", "_law_m"]) fun _ _ _ _ _ _ us hl => match us, hl with | [_, _, _], _ => rfl
    a__law_along := f27
    d__law_along := _
    F__law_along := F27
    m__law_along := PySem.W.mg_of X G a27
    b__law_along := F27.binds (ps := ["_law_c", "_law_x"]) fun _ _ _ _ _ _ us hl => match us, hl with | [_, _], _ => rfl
    a__law_common := f28
    d__law_common := _
    F__law_common := F28
    m__law_common := PySem.W.mg_of X G a28
    b__law_common := F28.binds (ps := ["_law_one", "_law_other"]) fun _ _ _ _ _ _ us hl => match us, hl with | [_, _], _ => rfl
    a__law_tint := f29
    d__law_tint := _
    F__law_tint := F29
    m__law_tint := PySem.W.mg_of X G a29
    b__law_tint := F29.binds (ps := ["_law_heap", "_law_x"]) fun _ _ _ _ _ _ us hl => match us, hl with | [_, _], _ => rfl
    a__law_by := f30
    d__law_by := _
    F__law_by := F30
    m__law_by := PySem.W.mg_of X G a30
    b__law_by := F30.binds (ps := ["_law_stripe", "_law_u"]) fun _ _ _ _ _ _ us hl => match us, hl with | [_, _], _ => rfl
    a__law_heaps := f31
    d__law_heaps := _
    F__law_heaps := F31
    m__law_heaps := PySem.W.mg_of X G a31
    b__law_heaps := F31.binds (ps := ["_law_deck_here", "_law_d", "_law_x"]) fun _ _ _ _ _ _ us hl => match us, hl with | [_, _, _], _ => rfl
    a__law_is_due := f32
    d__law_is_due := _
    F__law_is_due := F32
    m__law_is_due := PySem.W.mg_of X G a32
    b__law_is_due := F32.binds (ps := ["_law_heap", "_law_other", "_law_cell"]) fun _ _ _ _ _ _ us hl => match us, hl with | [_, _, _], _ => rfl
    a__law_near := f33
    d__law_near := _
    F__law_near := F33
    m__law_near := PySem.W.mg_of X G a33
    b__law_near := F33.binds (ps := ["_law_deck_here", "_law_heap", "_law_x"]) fun _ _ _ _ _ _ us hl => match us, hl with | [_, _, _], _ => rfl
    a_law := f34
    d_law := _
    F_law := F34
    m_law := PySem.W.mg_of X G a34
    b_law := F34.binds (ps := ["_law_script"]) fun _ _ _ _ _ _ us hl => match us, hl with | [_], _ => rfl
    n_abs := PySem.W.mg_none_of X G z0
    n_all := PySem.W.mg_none_of X G z1
    n_bool := PySem.W.mg_none_of X G z2
    n_int := PySem.W.mg_none_of X G z3
    n_isinstance := PySem.W.mg_none_of X G z4
    n_len := PySem.W.mg_none_of X G z5
    n_list := PySem.W.mg_none_of X G z6
    n_max := PySem.W.mg_none_of X G z7
    n_range := PySem.W.mg_none_of X G z8
    n_repr := PySem.W.mg_none_of X G z9
    n_sorted := PySem.W.mg_none_of X G z10
    n_sum := PySem.W.mg_none_of X G z11
    n_tuple := PySem.W.mg_none_of X G z12
    n_zip := PySem.W.mg_none_of X G z13
    kb_tint_at_0_cell_heap := mkb_tint_at_0_cell_heap F13
    m_gcd := PySem.W.mg_of X G b0
    a_PRIMES := He.ga K "PRIMES"
    m_PRIMES := PySem.W.mg_of X G v0
    t_PRIMES := fun H => He.tupB_ok w0 H
    m_MOST_BREADTH := ⟨_, PySem.W.mg_of X G v1⟩
    m_MOST_PRIMES_MULTIPLIED := ⟨_, PySem.W.mg_of X G v2⟩
  }⟩
theorem law_at {K : PySem.W.Frag} {mg : Str → Option Value} {fa : Addr} (T : Txt K mg) (hfa : mg "law" = some (.ref fa)) : fa = T.a_law := by
  have e := hfa.symm.trans T.m_law
  injection e with e
  injection e
theorem law_binds {K : PySem.W.Frag} {mg : Str → Option Value} (T : Txt K mg) (s : Shared) (u : Value) : BindsTo s T.d_law ⟨[u], []⟩ [("_law_script", u)] := by
  obtain ⟨oc, od, kV, doc, pm, an, cdv, ct, osl, e, lk, hcd⟩ := T.F_law.ex
  rw [e]
  exact .of_eq rfl
theorem all_end {l : PySem.W.OpenLaw} {w : World} {K : PySem.W.Frag} {h : Heap} {mg : Str → Option Value} {fa : Addr} (X : K.In h) (G : h.Ns mainGlobals mg) (hfa : mg "law" = some (.ref fa))
    {f0 : Addr} {od0 an0 : Option Addr} {sl0 : Array (Option Value)} {oc0 kV0 dc0 pm0 cd0 ct0 : Value}
    (a0 : PySem.W.nsIn K mainGlobals "is_integer" = some (some (.ref f0))) (l0 : K.lookup f0 = some ⟨oc0, od0, .func (PySem.W.fnOf "is_integer" "is_integer" (defArgs s_is_integer) (defBody s_is_integer) (defScope s_is_integer) .none kV0 dc0 pm0 an0 cd0 ct0), sl0⟩)
    (c0 : PySem.W.codeIn K cd0 "is_integer" = true) (k0 : PySem.W.keepIn K (.ref f0) = true)
    {f1 : Addr} {od1 an1 : Option Addr} {sl1 : Array (Option Value)} {oc1 kV1 dc1 pm1 cd1 ct1 : Value}
    (a1 : PySem.W.nsIn K mainGlobals "primes_of" = some (some (.ref f1))) (l1 : K.lookup f1 = some ⟨oc1, od1, .func (PySem.W.fnOf "primes_of" "primes_of" (defArgs s_primes_of) (defBody s_primes_of) (defScope s_primes_of) .none kV1 dc1 pm1 an1 cd1 ct1), sl1⟩)
    (c1 : PySem.W.codeIn K cd1 "primes_of" = true) (k1 : PySem.W.keepIn K (.ref f1) = true)
    {f2 : Addr} {od2 an2 : Option Addr} {sl2 : Array (Option Value)} {oc2 kV2 dc2 pm2 cd2 ct2 : Value}
    (a2 : PySem.W.nsIn K mainGlobals "part_at" = some (some (.ref f2))) (l2 : K.lookup f2 = some ⟨oc2, od2, .func (PySem.W.fnOf "part_at" "part_at" (defArgs s_part_at) (defBody s_part_at) (defScope s_part_at) .none kV2 dc2 pm2 an2 cd2 ct2), sl2⟩)
    (c2 : PySem.W.codeIn K cd2 "part_at" = true) (k2 : PySem.W.keepIn K (.ref f2) = true)
    {f3 : Addr} {od3 an3 : Option Addr} {sl3 : Array (Option Value)} {oc3 kV3 dc3 pm3 cd3 ct3 : Value}
    (a3 : PySem.W.nsIn K mainGlobals "common_divisor" = some (some (.ref f3))) (l3 : K.lookup f3 = some ⟨oc3, od3, .func (PySem.W.fnOf "common_divisor" "common_divisor" (defArgs s_common_divisor) (defBody s_common_divisor) (defScope s_common_divisor) .none kV3 dc3 pm3 an3 cd3 ct3), sl3⟩)
    (c3 : PySem.W.codeIn K cd3 "common_divisor" = true) (k3 : PySem.W.keepIn K (.ref f3) = true)
    {f4 : Addr} {od4 an4 : Option Addr} {sl4 : Array (Option Value)} {oc4 kV4 dc4 pm4 cd4 ct4 : Value}
    (a4 : PySem.W.nsIn K mainGlobals "is_period" = some (some (.ref f4))) (l4 : K.lookup f4 = some ⟨oc4, od4, .func (PySem.W.fnOf "is_period" "is_period" (defArgs s_is_period) (defBody s_is_period) (defScope s_is_period) .none kV4 dc4 pm4 an4 cd4 ct4), sl4⟩)
    (c4 : PySem.W.codeIn K cd4 "is_period" = true) (k4 : PySem.W.keepIn K (.ref f4) = true)
    {f5 : Addr} {od5 an5 : Option Addr} {sl5 : Array (Option Value)} {oc5 kV5 dc5 pm5 cd5 ct5 : Value}
    (a5 : PySem.W.nsIn K mainGlobals "is_cell" = some (some (.ref f5))) (l5 : K.lookup f5 = some ⟨oc5, od5, .func (PySem.W.fnOf "is_cell" "is_cell" (defArgs s_is_cell) (defBody s_is_cell) (defScope s_is_cell) .none kV5 dc5 pm5 an5 cd5 ct5), sl5⟩)
    (c5 : PySem.W.codeIn K cd5 "is_cell" = true) (k5 : PySem.W.keepIn K (.ref f5) = true)
    {f6 : Addr} {od6 an6 : Option Addr} {sl6 : Array (Option Value)} {oc6 kV6 dc6 pm6 cd6 ct6 : Value}
    (a6 : PySem.W.nsIn K mainGlobals "is_stripe" = some (some (.ref f6))) (l6 : K.lookup f6 = some ⟨oc6, od6, .func (PySem.W.fnOf "is_stripe" "is_stripe" (defArgs s_is_stripe) (defBody s_is_stripe) (defScope s_is_stripe) .none kV6 dc6 pm6 an6 cd6 ct6), sl6⟩)
    (c6 : PySem.W.codeIn K cd6 "is_stripe" = true) (k6 : PySem.W.keepIn K (.ref f6) = true)
    {f7 : Addr} {od7 an7 : Option Addr} {sl7 : Array (Option Value)} {oc7 kV7 dc7 pm7 cd7 ct7 : Value}
    (a7 : PySem.W.nsIn K mainGlobals "is_on" = some (some (.ref f7))) (l7 : K.lookup f7 = some ⟨oc7, od7, .func (PySem.W.fnOf "is_on" "is_on" (defArgs s_is_on) (defBody s_is_on) (defScope s_is_on) .none kV7 dc7 pm7 an7 cd7 ct7), sl7⟩)
    (c7 : PySem.W.codeIn K cd7 "is_on" = true) (k7 : PySem.W.keepIn K (.ref f7) = true)
    {f8 : Addr} {od8 an8 : Option Addr} {sl8 : Array (Option Value)} {oc8 kV8 dc8 pm8 cd8 ct8 : Value}
    (a8 : PySem.W.nsIn K mainGlobals "lies_on" = some (some (.ref f8))) (l8 : K.lookup f8 = some ⟨oc8, od8, .func (PySem.W.fnOf "lies_on" "lies_on" (defArgs s_lies_on) (defBody s_lies_on) (defScope s_lies_on) .none kV8 dc8 pm8 an8 cd8 ct8), sl8⟩)
    (c8 : PySem.W.codeIn K cd8 "lies_on" = true) (k8 : PySem.W.keepIn K (.ref f8) = true)
    {f9 : Addr} {od9 an9 : Option Addr} {sl9 : Array (Option Value)} {oc9 kV9 dc9 pm9 cd9 ct9 : Value}
    (a9 : PySem.W.nsIn K mainGlobals "dot" = some (some (.ref f9))) (l9 : K.lookup f9 = some ⟨oc9, od9, .func (PySem.W.fnOf "dot" "dot" (defArgs s_dot) (defBody s_dot) (defScope s_dot) .none kV9 dc9 pm9 an9 cd9 ct9), sl9⟩)
    (c9 : PySem.W.codeIn K cd9 "dot" = true) (k9 : PySem.W.keepIn K (.ref f9) = true)
    {f10 : Addr} {od10 an10 : Option Addr} {sl10 : Array (Option Value)} {oc10 kV10 dc10 pm10 cd10 ct10 : Value}
    (a10 : PySem.W.nsIn K mainGlobals "check_stripe" = some (some (.ref f10))) (l10 : K.lookup f10 = some ⟨oc10, od10, .func (PySem.W.fnOf "check_stripe" "check_stripe" (defArgs s_check_stripe) (defBody s_check_stripe) (defScope s_check_stripe) .none kV10 dc10 pm10 an10 cd10 ct10), sl10⟩)
    (c10 : PySem.W.codeIn K cd10 "check_stripe" = true) (k10 : PySem.W.keepIn K (.ref f10) = true)
    {f11 : Addr} {od11 an11 : Option Addr} {sl11 : Array (Option Value)} {oc11 kV11 dc11 pm11 cd11 ct11 : Value}
    (a11 : PySem.W.nsIn K mainGlobals "is_heap" = some (some (.ref f11))) (l11 : K.lookup f11 = some ⟨oc11, od11, .func (PySem.W.fnOf "is_heap" "is_heap" (defArgs s_is_heap) (defBody s_is_heap) (defScope s_is_heap) .none kV11 dc11 pm11 an11 cd11 ct11), sl11⟩)
    (c11 : PySem.W.codeIn K cd11 "is_heap" = true) (k11 : PySem.W.keepIn K (.ref f11) = true)
    {f12 : Addr} {od12 an12 : Option Addr} {sl12 : Array (Option Value)} {oc12 kV12 dc12 pm12 cd12 ct12 : Value}
    (a12 : PySem.W.nsIn K mainGlobals "is_stripe_with_tint" = some (some (.ref f12))) (l12 : K.lookup f12 = some ⟨oc12, od12, .func (PySem.W.fnOf "is_stripe_with_tint" "is_stripe_with_tint" (defArgs s_is_stripe_with_tint) (defBody s_is_stripe_with_tint) (defScope s_is_stripe_with_tint) .none kV12 dc12 pm12 an12 cd12 ct12), sl12⟩)
    (c12 : PySem.W.codeIn K cd12 "is_stripe_with_tint" = true) (k12 : PySem.W.keepIn K (.ref f12) = true)
    {f13 : Addr} {od13 an13 : Option Addr} {sl13 : Array (Option Value)} {oc13 kV13 dc13 pm13 cd13 ct13 : Value}
    (a13 : PySem.W.nsIn K mainGlobals "tint_at" = some (some (.ref f13))) (l13 : K.lookup f13 = some ⟨oc13, od13, .func (PySem.W.fnOf "tint_at" "tint_at" (defArgs s_tint_at) (defBody s_tint_at) (defScope s_tint_at) .none kV13 dc13 pm13 an13 cd13 ct13), sl13⟩)
    (c13 : PySem.W.codeIn K cd13 "tint_at" = true) (k13 : PySem.W.keepIn K (.ref f13) = true)
    {f14 : Addr} {od14 an14 : Option Addr} {sl14 : Array (Option Value)} {oc14 kV14 dc14 pm14 cd14 ct14 : Value}
    (a14 : PySem.W.nsIn K mainGlobals "has_breadth" = some (some (.ref f14))) (l14 : K.lookup f14 = some ⟨oc14, od14, .func (PySem.W.fnOf "has_breadth" "has_breadth" (defArgs s_has_breadth) (defBody s_has_breadth) (defScope s_has_breadth) .none kV14 dc14 pm14 an14 cd14 ct14), sl14⟩)
    (c14 : PySem.W.codeIn K cd14 "has_breadth" = true) (k14 : PySem.W.keepIn K (.ref f14) = true)
    {f15 : Addr} {od15 an15 : Option Addr} {sl15 : Array (Option Value)} {oc15 kV15 dc15 pm15 cd15 ct15 : Value}
    (a15 : PySem.W.nsIn K mainGlobals "tint_on" = some (some (.ref f15))) (l15 : K.lookup f15 = some ⟨oc15, od15, .func (PySem.W.fnOf "tint_on" "tint_on" (defArgs s_tint_on) (defBody s_tint_on) (defScope s_tint_on) .none kV15 dc15 pm15 an15 cd15 ct15), sl15⟩)
    (c15 : PySem.W.codeIn K cd15 "tint_on" = true) (k15 : PySem.W.keepIn K (.ref f15) = true)
    {f16 : Addr} {od16 an16 : Option Addr} {sl16 : Array (Option Value)} {oc16 kV16 dc16 pm16 cd16 ct16 : Value}
    (a16 : PySem.W.nsIn K mainGlobals "check_heap" = some (some (.ref f16))) (l16 : K.lookup f16 = some ⟨oc16, od16, .func (PySem.W.fnOf "check_heap" "check_heap" (defArgs s_check_heap) (defBody s_check_heap) (defScope s_check_heap) .none kV16 dc16 pm16 an16 cd16 ct16), sl16⟩)
    (c16 : PySem.W.codeIn K cd16 "check_heap" = true) (k16 : PySem.W.keepIn K (.ref f16) = true)
    {f17 : Addr} {od17 an17 : Option Addr} {sl17 : Array (Option Value)} {oc17 kV17 dc17 pm17 cd17 ct17 : Value}
    (a17 : PySem.W.nsIn K mainGlobals "check_cell" = some (some (.ref f17))) (l17 : K.lookup f17 = some ⟨oc17, od17, .func (PySem.W.fnOf "check_cell" "check_cell" (defArgs s_check_cell) (defBody s_check_cell) (defScope s_check_cell) .none kV17 dc17 pm17 an17 cd17 ct17), sl17⟩)
    (c17 : PySem.W.codeIn K cd17 "check_cell" = true) (k17 : PySem.W.keepIn K (.ref f17) = true)
    {f18 : Addr} {od18 an18 : Option Addr} {sl18 : Array (Option Value)} {oc18 kV18 dc18 pm18 cd18 ct18 : Value}
    (a18 : PySem.W.nsIn K mainGlobals "_law_deck" = some (some (.ref f18))) (l18 : K.lookup f18 = some ⟨oc18, od18, .func (PySem.W.fnOf "_law_deck" "_law_deck" (defArgs s__law_deck) (defBody s__law_deck) (defScope s__law_deck) .none kV18 dc18 pm18 an18 cd18 ct18), sl18⟩)
    (c18 : PySem.W.codeIn K cd18 "_law_deck" = true) (k18 : PySem.W.keepIn K (.ref f18) = true)
    {f19 : Addr} {od19 an19 : Option Addr} {sl19 : Array (Option Value)} {oc19 kV19 dc19 pm19 cd19 ct19 : Value}
    (a19 : PySem.W.nsIn K mainGlobals "_law_draw" = some (some (.ref f19))) (l19 : K.lookup f19 = some ⟨oc19, od19, .func (PySem.W.fnOf "_law_draw" "_law_draw" (defArgs s__law_draw) (defBody s__law_draw) (defScope s__law_draw) .none kV19 dc19 pm19 an19 cd19 ct19), sl19⟩)
    (c19 : PySem.W.codeIn K cd19 "_law_draw" = true) (k19 : PySem.W.keepIn K (.ref f19) = true)
    {f20 : Addr} {od20 an20 : Option Addr} {sl20 : Array (Option Value)} {oc20 kV20 dc20 pm20 cd20 ct20 : Value}
    (a20 : PySem.W.nsIn K mainGlobals "_law_pick" = some (some (.ref f20))) (l20 : K.lookup f20 = some ⟨oc20, od20, .func (PySem.W.fnOf "_law_pick" "_law_pick" (defArgs s__law_pick) (defBody s__law_pick) (defScope s__law_pick) .none kV20 dc20 pm20 an20 cd20 ct20), sl20⟩)
    (c20 : PySem.W.codeIn K cd20 "_law_pick" = true) (k20 : PySem.W.keepIn K (.ref f20) = true)
    {f21 : Addr} {od21 an21 : Option Addr} {sl21 : Array (Option Value)} {oc21 kV21 dc21 pm21 cd21 ct21 : Value}
    (a21 : PySem.W.nsIn K mainGlobals "_law_great" = some (some (.ref f21))) (l21 : K.lookup f21 = some ⟨oc21, od21, .func (PySem.W.fnOf "_law_great" "_law_great" (defArgs s__law_great) (defBody s__law_great) (defScope s__law_great) .none kV21 dc21 pm21 an21 cd21 ct21), sl21⟩)
    (c21 : PySem.W.codeIn K cd21 "_law_great" = true) (k21 : PySem.W.keepIn K (.ref f21) = true)
    {f22 : Addr} {od22 an22 : Option Addr} {sl22 : Array (Option Value)} {oc22 kV22 dc22 pm22 cd22 ct22 : Value}
    (a22 : PySem.W.nsIn K mainGlobals "_law_signed" = some (some (.ref f22))) (l22 : K.lookup f22 = some ⟨oc22, od22, .func (PySem.W.fnOf "_law_signed" "_law_signed" (defArgs s__law_signed) (defBody s__law_signed) (defScope s__law_signed) .none kV22 dc22 pm22 an22 cd22 ct22), sl22⟩)
    (c22 : PySem.W.codeIn K cd22 "_law_signed" = true) (k22 : PySem.W.keepIn K (.ref f22) = true)
    {f23 : Addr} {od23 an23 : Option Addr} {sl23 : Array (Option Value)} {oc23 kV23 dc23 pm23 cd23 ct23 : Value}
    (a23 : PySem.W.nsIn K mainGlobals "_law_powers" = some (some (.ref f23))) (l23 : K.lookup f23 = some ⟨oc23, od23, .func (PySem.W.fnOf "_law_powers" "_law_powers" (defArgs s__law_powers) (defBody s__law_powers) (defScope s__law_powers) .none kV23 dc23 pm23 an23 cd23 ct23), sl23⟩)
    (c23 : PySem.W.codeIn K cd23 "_law_powers" = true) (k23 : PySem.W.keepIn K (.ref f23) = true)
    {f24 : Addr} {od24 an24 : Option Addr} {sl24 : Array (Option Value)} {oc24 kV24 dc24 pm24 cd24 ct24 : Value}
    (a24 : PySem.W.nsIn K mainGlobals "_law_product" = some (some (.ref f24))) (l24 : K.lookup f24 = some ⟨oc24, od24, .func (PySem.W.fnOf "_law_product" "_law_product" (defArgs s__law_product) (defBody s__law_product) (defScope s__law_product) .none kV24 dc24 pm24 an24 cd24 ct24), sl24⟩)
    (c24 : PySem.W.codeIn K cd24 "_law_product" = true) (k24 : PySem.W.keepIn K (.ref f24) = true)
    {f25 : Addr} {od25 an25 : Option Addr} {sl25 : Array (Option Value)} {oc25 kV25 dc25 pm25 cd25 ct25 : Value}
    (a25 : PySem.W.nsIn K mainGlobals "_law_numbers" = some (some (.ref f25))) (l25 : K.lookup f25 = some ⟨oc25, od25, .func (PySem.W.fnOf "_law_numbers" "_law_numbers" (defArgs s__law_numbers) (defBody s__law_numbers) (defScope s__law_numbers) .none kV25 dc25 pm25 an25 cd25 ct25), sl25⟩)
    (c25 : PySem.W.codeIn K cd25 "_law_numbers" = true) (k25 : PySem.W.keepIn K (.ref f25) = true)
    {f26 : Addr} {od26 an26 : Option Addr} {sl26 : Array (Option Value)} {oc26 kV26 dc26 pm26 cd26 ct26 : Value}
    (a26 : PySem.W.nsIn K mainGlobals "_law_unit" = some (some (.ref f26))) (l26 : K.lookup f26 = some ⟨oc26, od26, .func (PySem.W.fnOf "_law_unit" "_law_unit" (defArgs s__law_unit) (defBody s__law_unit) (defScope s__law_unit) .none kV26 dc26 pm26 an26 cd26 ct26), sl26⟩)
    (c26 : PySem.W.codeIn K cd26 "_law_unit" = true) (k26 : PySem.W.keepIn K (.ref f26) = true)
    {f27 : Addr} {od27 an27 : Option Addr} {sl27 : Array (Option Value)} {oc27 kV27 dc27 pm27 cd27 ct27 : Value}
    (a27 : PySem.W.nsIn K mainGlobals "_law_along" = some (some (.ref f27))) (l27 : K.lookup f27 = some ⟨oc27, od27, .func (PySem.W.fnOf "_law_along" "_law_along" (defArgs s__law_along) (defBody s__law_along) (defScope s__law_along) .none kV27 dc27 pm27 an27 cd27 ct27), sl27⟩)
    (c27 : PySem.W.codeIn K cd27 "_law_along" = true) (k27 : PySem.W.keepIn K (.ref f27) = true)
    {f28 : Addr} {od28 an28 : Option Addr} {sl28 : Array (Option Value)} {oc28 kV28 dc28 pm28 cd28 ct28 : Value}
    (a28 : PySem.W.nsIn K mainGlobals "_law_common" = some (some (.ref f28))) (l28 : K.lookup f28 = some ⟨oc28, od28, .func (PySem.W.fnOf "_law_common" "_law_common" (defArgs s__law_common) (defBody s__law_common) (defScope s__law_common) .none kV28 dc28 pm28 an28 cd28 ct28), sl28⟩)
    (c28 : PySem.W.codeIn K cd28 "_law_common" = true) (k28 : PySem.W.keepIn K (.ref f28) = true)
    {f29 : Addr} {od29 an29 : Option Addr} {sl29 : Array (Option Value)} {oc29 kV29 dc29 pm29 cd29 ct29 : Value}
    (a29 : PySem.W.nsIn K mainGlobals "_law_tint" = some (some (.ref f29))) (l29 : K.lookup f29 = some ⟨oc29, od29, .func (PySem.W.fnOf "_law_tint" "_law_tint" (defArgs s__law_tint) (defBody s__law_tint) (defScope s__law_tint) .none kV29 dc29 pm29 an29 cd29 ct29), sl29⟩)
    (c29 : PySem.W.codeIn K cd29 "_law_tint" = true) (k29 : PySem.W.keepIn K (.ref f29) = true)
    {f30 : Addr} {od30 an30 : Option Addr} {sl30 : Array (Option Value)} {oc30 kV30 dc30 pm30 cd30 ct30 : Value}
    (a30 : PySem.W.nsIn K mainGlobals "_law_by" = some (some (.ref f30))) (l30 : K.lookup f30 = some ⟨oc30, od30, .func (PySem.W.fnOf "_law_by" "_law_by" (defArgs s__law_by) (defBody s__law_by) (defScope s__law_by) .none kV30 dc30 pm30 an30 cd30 ct30), sl30⟩)
    (c30 : PySem.W.codeIn K cd30 "_law_by" = true) (k30 : PySem.W.keepIn K (.ref f30) = true)
    {f31 : Addr} {od31 an31 : Option Addr} {sl31 : Array (Option Value)} {oc31 kV31 dc31 pm31 cd31 ct31 : Value}
    (a31 : PySem.W.nsIn K mainGlobals "_law_heaps" = some (some (.ref f31))) (l31 : K.lookup f31 = some ⟨oc31, od31, .func (PySem.W.fnOf "_law_heaps" "_law_heaps" (defArgs s__law_heaps) (defBody s__law_heaps) (defScope s__law_heaps) .none kV31 dc31 pm31 an31 cd31 ct31), sl31⟩)
    (c31 : PySem.W.codeIn K cd31 "_law_heaps" = true) (k31 : PySem.W.keepIn K (.ref f31) = true)
    {f32 : Addr} {od32 an32 : Option Addr} {sl32 : Array (Option Value)} {oc32 kV32 dc32 pm32 cd32 ct32 : Value}
    (a32 : PySem.W.nsIn K mainGlobals "_law_is_due" = some (some (.ref f32))) (l32 : K.lookup f32 = some ⟨oc32, od32, .func (PySem.W.fnOf "_law_is_due" "_law_is_due" (defArgs s__law_is_due) (defBody s__law_is_due) (defScope s__law_is_due) .none kV32 dc32 pm32 an32 cd32 ct32), sl32⟩)
    (c32 : PySem.W.codeIn K cd32 "_law_is_due" = true) (k32 : PySem.W.keepIn K (.ref f32) = true)
    {f33 : Addr} {od33 an33 : Option Addr} {sl33 : Array (Option Value)} {oc33 kV33 dc33 pm33 cd33 ct33 : Value}
    (a33 : PySem.W.nsIn K mainGlobals "_law_near" = some (some (.ref f33))) (l33 : K.lookup f33 = some ⟨oc33, od33, .func (PySem.W.fnOf "_law_near" "_law_near" (defArgs s__law_near) (defBody s__law_near) (defScope s__law_near) .none kV33 dc33 pm33 an33 cd33 ct33), sl33⟩)
    (c33 : PySem.W.codeIn K cd33 "_law_near" = true) (k33 : PySem.W.keepIn K (.ref f33) = true)
    {f34 : Addr} {od34 an34 : Option Addr} {sl34 : Array (Option Value)} {oc34 kV34 dc34 pm34 cd34 ct34 : Value}
    (a34 : PySem.W.nsIn K mainGlobals "law" = some (some (.ref f34))) (l34 : K.lookup f34 = some ⟨oc34, od34, .func (PySem.W.fnOf "law" "law" (defArgs s_law) (defBody s_law) (defScope s_law) .none kV34 dc34 pm34 an34 cd34 ct34), sl34⟩)
    (c34 : PySem.W.codeIn K cd34 "law" = true) (k34 : PySem.W.keepIn K (.ref f34) = true)
    (z0 : PySem.W.nsIn K mainGlobals "abs" = some none)
    (z1 : PySem.W.nsIn K mainGlobals "all" = some none)
    (z2 : PySem.W.nsIn K mainGlobals "bool" = some none)
    (z3 : PySem.W.nsIn K mainGlobals "int" = some none)
    (z4 : PySem.W.nsIn K mainGlobals "isinstance" = some none)
    (z5 : PySem.W.nsIn K mainGlobals "len" = some none)
    (z6 : PySem.W.nsIn K mainGlobals "list" = some none)
    (z7 : PySem.W.nsIn K mainGlobals "max" = some none)
    (z8 : PySem.W.nsIn K mainGlobals "range" = some none)
    (z9 : PySem.W.nsIn K mainGlobals "repr" = some none)
    (z10 : PySem.W.nsIn K mainGlobals "sorted" = some none)
    (z11 : PySem.W.nsIn K mainGlobals "sum" = some none)
    (z12 : PySem.W.nsIn K mainGlobals "tuple" = some none)
    (z13 : PySem.W.nsIn K mainGlobals "zip" = some none)
    (b0 : PySem.W.nsIn K mainGlobals "gcd" = some (some (.builtin "math.gcd")))
    (v0 : PySem.W.nsIn K mainGlobals "PRIMES" = some (some (.ref (He.ga K "PRIMES")))) (w0 : He.tupB K "PRIMES" (([2, 3, 5, 7, 11, 13, 17, 19, 23, 29] : List Int).map He.Dv.int) = true)
    {t1 : Tok} (v1 : PySem.W.nsIn K mainGlobals "MOST_BREADTH" = some (some (.int 3 t1)))
    {t2 : Tok} (v2 : PySem.W.nsIn K mainGlobals "MOST_PRIMES_MULTIPLIED" = some (some (.int 1000 t2)))
    : ∃ fd : FuncData, (∀ (s : Shared) (u : Value), BindsTo s fd ⟨[u], []⟩ [("_law_script", u)]) ∧ ∀ base : Heap, K.In base → base.Ns mainGlobals mg → GFn l.prog w K mg base 9 fa fd ["_law_script"] (sp_law K) := by
  obtain ⟨T⟩ := all_mk X G a0 l0 c0 k0 a1 l1 c1 k1 a2 l2 c2 k2 a3 l3 c3 k3 a4 l4 c4 k4 a5 l5 c5 k5 a6 l6 c6 k6 a7 l7 c7 k7 a8 l8 c8 k8 a9 l9 c9 k9 a10 l10 c10 k10 a11 l11 c11 k11 a12 l12 c12 k12 a13 l13 c13 k13 a14 l14 c14 k14 a15 l15 c15 k15 a16 l16 c16 k16 a17 l17 c17 k17 a18 l18 c18 k18 a19 l19 c19 k19 a20 l20 c20 k20 a21 l21 c21 k21 a22 l22 c22 k22 a23 l23 c23 k23 a24 l24 c24 k24 a25 l25 c25 k25 a26 l26 c26 k26 a27 l27 c27 k27 a28 l28 c28 k28 a29 l29 c29 k29 a30 l30 c30 k30 a31 l31 c31 k31 a32 l32 c32 k32 a33 l33 c33 k33 a34 l34 c34 k34 z0 z1 z2 z3 z4 z5 z6 z7 z8 z9 z10 z11 z12 z13 b0 v0 w0 v1 v2
  obtain rfl := law_at T hfa
  exact ⟨_, law_binds T, fun base _ _ => ok_law T⟩
theorem law_want (K : PySem.W.Frag) (H : Hp) (a : Addr) (ns : List Int) (hl : ns.length ≤ 63) (hs : SqL K H a (ns.map V.int)) : sp_law K [.ref a] H (fun v _ => v = .bl true) E0 := ⟨a, ns, rfl, hs, hl, fun _ => rfl⟩
end KL
open PySem PySem.W PyProof.Rows
set_option maxHeartbeats 0 in
theorem PySem.Challenge.cw_slantpanes_k12_tints_at_far_cells_holds : PySem.Challenge.rw_slantpanes_k12_tints_at_far_cells.Holds := by
  w_on; o_law; k_head; (case hw => w_witness2)
  k_fill
  refine Kw.walk_G (l := PySem.Challenge.rw_slantpanes_k12_tints_at_far_cells) (n := 63) (k := 9) (x := "_law_script") (sp := KL.sp_law) rfl (by decide) rfl ⟨rfl, by decide, by decide⟩ (fun w h Y => PySem.W.kIn_of Y) ?F KL.law_want
  case F =>
    intro w mg fa h KX G hmg
    refine' KL.all_end KX G hmg ?a0 ?l0 ?c0 ?k0 ?a1 ?l1 ?c1 ?k1 ?a2 ?l2 ?c2 ?k2 ?a3 ?l3 ?c3 ?k3 ?a4 ?l4 ?c4 ?k4 ?a5 ?l5 ?c5 ?k5 ?a6 ?l6 ?c6 ?k6 ?a7 ?l7 ?c7 ?k7 ?a8 ?l8 ?c8 ?k8 ?a9 ?l9 ?c9 ?k9 ?a10 ?l10 ?c10 ?k10 ?a11 ?l11 ?c11 ?k11 ?a12 ?l12 ?c12 ?k12 ?a13 ?l13 ?c13 ?k13 ?a14 ?l14 ?c14 ?k14 ?a15 ?l15 ?c15 ?k15 ?a16 ?l16 ?c16 ?k16 ?a17 ?l17 ?c17 ?k17 ?a18 ?l18 ?c18 ?k18 ?a19 ?l19 ?c19 ?k19 ?a20 ?l20 ?c20 ?k20 ?a21 ?l21 ?c21 ?k21 ?a22 ?l22 ?c22 ?k22 ?a23 ?l23 ?c23 ?k23 ?a24 ?l24 ?c24 ?k24 ?a25 ?l25 ?c25 ?k25 ?a26 ?l26 ?c26 ?k26 ?a27 ?l27 ?c27 ?k27 ?a28 ?l28 ?c28 ?k28 ?a29 ?l29 ?c29 ?k29 ?a30 ?l30 ?c30 ?k30 ?a31 ?l31 ?c31 ?k31 ?a32 ?l32 ?c32 ?k32 ?a33 ?l33 ?c33 ?k33 ?a34 ?l34 ?c34 ?k34 ?z0 ?z1 ?z2 ?z3 ?z4 ?z5 ?z6 ?z7 ?z8 ?z9 ?z10 ?z11 ?z12 ?z13 ?b0 ?v0 ?w0 ?v1 ?v2
    (case a0 => k_is)
    (case l0 => k_is)
    (case c0 => k_is)
    (case k0 => k_is)
    (case a1 => k_is)
    (case l1 => k_is)
    (case c1 => k_is)
    (case k1 => k_is)
    (case a2 => k_is)
    (case l2 => k_is)
    (case c2 => k_is)
    (case k2 => k_is)
    (case a3 => k_is)
    (case l3 => k_is)
    (case c3 => k_is)
    (case k3 => k_is)
    (case a4 => k_is)
    (case l4 => k_is)
    (case c4 => k_is)
    (case k4 => k_is)
    (case a5 => k_is)
    (case l5 => k_is)
    (case c5 => k_is)
    (case k5 => k_is)
    (case a6 => k_is)
    (case l6 => k_is)
    (case c6 => k_is)
    (case k6 => k_is)
    (case a7 => k_is)
    (case l7 => k_is)
    (case c7 => k_is)
    (case k7 => k_is)
    (case a8 => k_is)
    (case l8 => k_is)
    (case c8 => k_is)
    (case k8 => k_is)
    (case a9 => k_is)
    (case l9 => k_is)
    (case c9 => k_is)
    (case k9 => k_is)
    (case a10 => k_is)
    (case l10 => k_is)
    (case c10 => k_is)
    (case k10 => k_is)
    (case a11 => k_is)
    (case l11 => k_is)
    (case c11 => k_is)
    (case k11 => k_is)
    (case a12 => k_is)
    (case l12 => k_is)
    (case c12 => k_is)
    (case k12 => k_is)
    (case a13 => k_is)
    (case l13 => k_is)
    (case c13 => k_is)
    (case k13 => k_is)
    (case a14 => k_is)
    (case l14 => k_is)
    (case c14 => k_is)
    (case k14 => k_is)
    (case a15 => k_is)
    (case l15 => k_is)
    (case c15 => k_is)
    (case k15 => k_is)
    (case a16 => k_is)
    (case l16 => k_is)
    (case c16 => k_is)
    (case k16 => k_is)
    (case a17 => k_is)
    (case l17 => k_is)
    (case c17 => k_is)
    (case k17 => k_is)
    (case a18 => k_is)
    (case l18 => k_is)
    (case c18 => k_is)
    (case k18 => k_is)
    (case a19 => k_is)
    (case l19 => k_is)
    (case c19 => k_is)
    (case k19 => k_is)
    (case a20 => k_is)
    (case l20 => k_is)
    (case c20 => k_is)
    (case k20 => k_is)
    (case a21 => k_is)
    (case l21 => k_is)
    (case c21 => k_is)
    (case k21 => k_is)
    (case a22 => k_is)
    (case l22 => k_is)
    (case c22 => k_is)
    (case k22 => k_is)
    (case a23 => k_is)
    (case l23 => k_is)
    (case c23 => k_is)
    (case k23 => k_is)
    (case a24 => k_is)
    (case l24 => k_is)
    (case c24 => k_is)
    (case k24 => k_is)
    (case a25 => k_is)
    (case l25 => k_is)
    (case c25 => k_is)
    (case k25 => k_is)
    (case a26 => k_is)
    (case l26 => k_is)
    (case c26 => k_is)
    (case k26 => k_is)
    (case a27 => k_is)
    (case l27 => k_is)
    (case c27 => k_is)
    (case k27 => k_is)
    (case a28 => k_is)
    (case l28 => k_is)
    (case c28 => k_is)
    (case k28 => k_is)
    (case a29 => k_is)
    (case l29 => k_is)
    (case c29 => k_is)
    (case k29 => k_is)
    (case a30 => k_is)
    (case l30 => k_is)
    (case c30 => k_is)
    (case k30 => k_is)
    (case a31 => k_is)
    (case l31 => k_is)
    (case c31 => k_is)
    (case k31 => k_is)
    (case a32 => k_is)
    (case l32 => k_is)
    (case c32 => k_is)
    (case k32 => k_is)
    (case a33 => k_is)
    (case l33 => k_is)
    (case c33 => k_is)
    (case k33 => k_is)
    (case a34 => k_is)
    (case l34 => k_is)
    (case c34 => k_is)
    (case k34 => k_is)
    (case z0 => k_is)
    (case z1 => k_is)
    (case z2 => k_is)
    (case z3 => k_is)
    (case z4 => k_is)
    (case z5 => k_is)
    (case z6 => k_is)
    (case z7 => k_is)
    (case z8 => k_is)
    (case z9 => k_is)
    (case z10 => k_is)
    (case z11 => k_is)
    (case z12 => k_is)
    (case z13 => k_is)
    (case b0 => k_is)
    (case v0 => k_is)
    (case w0 => kernel_rfl)
    (case v1 => k_is)
    (case v2 => k_is)
