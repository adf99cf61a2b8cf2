import PyProof.Rows.All
import Wide.All
import OpenK.AllK
import Wide.FinOn
import HandS.ForMost
import HandS.Wide
import HandS.WideMore
import HandS.IsInst
import HandS.Gcd
import HandS.Style
import HandS.Zip
import HandS.TupAny
import HandS.SortInts
import PyProof.ReprRoads
import HandS.Ends
import HandS.Star
import PySem.Challenge.RW_slantpanes_k03_far_cells_on_stripes
import HandS.Evl
import HandS.HeadHook2
set_option Elab.async false
set_option linter.all false
set_option maxRecDepth 100000
set_option maxHeartbeats 8000000
set_option exponentiation.threshold 3000
/-! Periods by their primes: plain mathematics. -/
namespace KM
def PN : List Nat := [2, 3, 5, 7, 11, 13, 17, 19, 23, 29]
theorem PN_nodup : PN.Nodup := by decide
theorem PN_lt : ∀ p ∈ PN, 2 ≤ p ∧ p ≤ 29 := by decide
theorem PN_div0 : ∀ p ∈ PN, ∀ d < 30, d ∣ p → d = 1 ∨ d = p := by decide
theorem PN_div {p d : Nat} (hp : p ∈ PN) (h : d ∣ p) : d = 1 ∨ d = p := by
  have := PN_lt p hp
  have := Nat.le_of_dvd (by omega) h
  exact PN_div0 p hp d (by omega) h
theorem cop_of {p a : Nat} (hp : p ∈ PN) (h : ¬ p ∣ a) : Nat.Coprime p a := by
  rcases PN_div hp (Nat.gcd_dvd_left p a) with e | e
  · exact e
  · exact absurd (e ▸ Nat.gcd_dvd_right p a) h
theorem dvd_mul_of {p a b : Nat} (hp : p ∈ PN) (h : p ∣ a * b) : p ∣ a ∨ p ∣ b := by
  by_cases c : p ∣ a
  · exact .inl c
  · exact .inr ((cop_of hp c).dvd_of_dvd_mul_left h)
theorem dvd_pow_of {p a : Nat} (hp : p ∈ PN) : ∀ {e : Nat}, p ∣ a ^ e → p ∣ a
  | 0, h => by
    have := PN_lt p hp
    have := Nat.le_of_dvd (by omega) (show p ∣ 1 from h)
    omega
  | e + 1, h => by
    rw [Nat.pow_succ] at h
    rcases dvd_mul_of hp h with h | h
    · exact dvd_pow_of hp h
    · exact h
theorem eq_of_dvd {p q : Nat} (hp : p ∈ PN) (hq : q ∈ PN) (h : p ∣ q) : p = q := by
  have := PN_lt p hp
  rcases PN_div hq h with e | e <;> omega

/-- a period by its primes and exponents -/
def mOf : List (Nat × Nat) → Nat
  | [] => 1
  | x :: r => x.1 ^ x.2 * mOf r
structure Pw (pw : List (Nat × Nat)) : Prop where
  sub : (pw.map (·.1)).Sublist PN
  pos : ∀ x ∈ pw, 1 ≤ x.2
theorem Pw.mem {pw : List (Nat × Nat)} (h : Pw pw) {x : Nat × Nat} (hx : x ∈ pw) : x.1 ∈ PN := h.sub.subset (List.mem_map_of_mem hx)
theorem Pw.tail {x : Nat × Nat} {pw : List (Nat × Nat)} (h : Pw (x :: pw)) : Pw pw :=
  ⟨(List.sublist_cons_self x.1 (pw.map fun y => y.1)).trans (show (x.1 :: pw.map fun y => y.1).Sublist PN from h.sub), fun y hy => h.pos y (List.mem_cons_of_mem _ hy)⟩
theorem Pw.nodup {pw : List (Nat × Nat)} (h : Pw pw) : (pw.map (·.1)).Nodup := h.sub.nodup PN_nodup
theorem mOf_pos : ∀ {pw : List (Nat × Nat)}, Pw pw → 1 ≤ mOf pw
  | [], _ => Nat.le_refl 1
  | x :: r, h => by
    have h1 := mOf_pos h.tail
    have h2 := PN_lt _ (h.mem List.mem_cons_self)
    have h3 : 0 < x.1 ^ x.2 := Nat.pow_pos (by omega)
    exact Nat.mul_pos h3 h1
theorem dvd_mOf {p : Nat} (hp : p ∈ PN) : ∀ {pw : List (Nat × Nat)}, Pw pw → (p ∣ mOf pw ↔ p ∈ pw.map (·.1))
  | [], _ => by
    have := PN_lt p hp
    refine ⟨fun h => ?_, fun h => by cases h⟩
    have := Nat.le_of_dvd (by omega) (show p ∣ 1 from h)
    omega
  | x :: r, h => by
    have ih := dvd_mOf hp h.tail
    rw [List.map_cons, List.mem_cons]
    constructor
    · intro d
      rcases dvd_mul_of hp (show p ∣ x.1 ^ x.2 * mOf r from d) with d | d
      · exact .inl (eq_of_dvd hp (h.mem List.mem_cons_self) (dvd_pow_of hp d))
      · exact .inr (ih.mp d)
    · rintro (e | e)
      · subst e
        have := h.pos x List.mem_cons_self
        exact Nat.dvd_trans (Nat.dvd_trans (by rw [show x.1 ^ x.2 = x.1 * x.1 ^ (x.2 - 1) by rw [Nat.mul_comm, ← Nat.pow_succ]; congr 1; omega]; exact Nat.dvd_mul_right _ _) (Nat.dvd_refl _)) (Nat.dvd_mul_right _ _)
      · exact Nat.dvd_trans (ih.mpr e) (Nat.dvd_mul_left _ _)
theorem filter_sub {α : Type} [DecidableEq α] : ∀ {s l : List α}, s.Sublist l → l.Nodup → l.filter (fun x => decide (x ∈ s)) = s
  | _, _, .slnil, _ => rfl
  | s, x :: l, .cons _ h, n => by
    have hx : x ∉ s := fun z => (List.nodup_cons.mp n).1 (h.subset z)
    rw [List.filter_cons_of_neg (by simpa using hx)]
    exact filter_sub h (List.nodup_cons.mp n).2
  | x :: s, _ :: l, .cons₂ _ h, n => by
    rw [List.filter_cons_of_pos (by simp)]
    congr 1
    have n' := (List.nodup_cons.mp n)
    rw [show l.filter (fun y => decide (y ∈ x :: s)) = l.filter (fun y => decide (y ∈ s)) from List.filter_congr fun y hy => by
      have : y ≠ x := fun e => n'.1 (e ▸ hy)
      simp [this]]
    exact filter_sub h n'.2
theorem primes_mOf {pw : List (Nat × Nat)} (h : Pw pw) : PN.filter (fun p => decide (p ∣ mOf pw)) = pw.map (·.1) := by
  rw [← filter_sub h.sub PN_nodup]
  refine List.filter_congr fun p hp => ?_
  simp only [dvd_mOf hp h, filter_sub h.sub PN_nodup]
/-- the power of the first prime -/
theorem part_first {x : Nat × Nat} {r : List (Nat × Nat)} (h : Pw (x :: r)) {k : Nat} (h1 : x.1 ^ k ∣ mOf (x :: r)) (h2 : ¬ x.1 ^ (k + 1) ∣ mOf (x :: r)) : k = x.2 := by
  have hp := h.mem List.mem_cons_self
  have p2 := PN_lt _ hp
  rcases Nat.lt_trichotomy k x.2 with c | c | c
  · exact absurd (Nat.dvd_trans (Nat.pow_dvd_pow x.1 c) (Nat.dvd_mul_right _ _)) h2
  · exact c
  · have d : x.1 ^ (x.2 + 1) ∣ x.1 ^ x.2 * mOf r := Nat.dvd_trans (Nat.pow_dvd_pow x.1 c) h1
    rw [Nat.pow_succ] at d
    have d2 : x.1 ∣ mOf r := Nat.dvd_of_mul_dvd_mul_left (Nat.pow_pos (by omega)) d
    have := (dvd_mOf hp h.tail).mp d2
    exact absurd this (List.nodup_cons.mp h.nodup).1
theorem cop_pow {p g : Nat} (h : Nat.Coprime p g) (e : Nat) : Nat.Coprime (p ^ e) g := Nat.Coprime.pow_left e h
/-- what divides a period and is not 1 is divisible by one of its primes -/
theorem prime_in {g : Nat} : ∀ {pw : List (Nat × Nat)}, Pw pw → g ∣ mOf pw → (∀ x ∈ pw, ¬ x.1 ∣ g) → g = 1
  | [], _, h, _ => Nat.dvd_one.mp h
  | x :: r, hw, h, hn => by
    have c : Nat.Coprime (x.1 ^ x.2) g := cop_pow (cop_of (hw.mem List.mem_cons_self) (hn x List.mem_cons_self)) _
    exact prime_in hw.tail (c.symm.dvd_of_dvd_mul_left h) fun y hy => hn y (List.mem_cons_of_mem _ hy)
/-- the prime powers divide a number exactly if their product does -/
theorem parts_dvd {g : Nat} : ∀ {pw : List (Nat × Nat)}, Pw pw → ((∀ x ∈ pw, x.1 ^ x.2 ∣ g) ↔ mOf pw ∣ g)
  | [], _ => ⟨fun _ => Nat.one_dvd g, fun _ _ h => by cases h⟩
  | x :: r, hw => by
    have ih := parts_dvd (g := g) hw.tail
    have c : Nat.Coprime (x.1 ^ x.2) (mOf r) := by
      refine cop_pow (cop_of (hw.mem List.mem_cons_self) fun d => ?_) _
      exact (List.nodup_cons.mp hw.nodup).1 ((dvd_mOf (hw.mem List.mem_cons_self) hw.tail).mp d)
    constructor
    · intro h
      exact c.mul_dvd_of_dvd_of_dvd (h x List.mem_cons_self) (ih.mp fun y hy => h y (List.mem_cons_of_mem _ hy))
    · intro h y hy
      rcases List.mem_cons.mp hy with rfl | hy
      · exact Nat.dvd_trans (Nat.dvd_mul_right _ _) h
      · exact ih.mpr (Nat.dvd_trans (Nat.dvd_mul_left _ _) h) y hy
theorem part_dvd_mOf {pw : List (Nat × Nat)} (h : Pw pw) {x : Nat × Nat} (hx : x ∈ pw) : x.1 ^ x.2 ∣ mOf pw := (parts_dvd h).mpr (Nat.dvd_refl _) x hx
/-- numbers that no prime of the period divides -/
theorem unit_cop {u : Nat} {pw : List (Nat × Nat)} (h : Pw pw) (hu : ∀ x ∈ pw, ¬ x.1 ∣ u) : Nat.Coprime u (mOf pw) := by
  refine prime_in h (Nat.gcd_dvd_right u (mOf pw)) fun x hx d => ?_
  exact hu x hx (Nat.dvd_trans d (Nat.gcd_dvd_left _ _))
end KM
/-! Calls where nothing is under way of being shown (guards known empty), so that repr of tuples is exact. -/
namespace Kw
open PySem PySem.Spec PyProof.Rows L2

abbrev Quiet (A : Around) : Prop := A.guards = some []

/-- as the layer's promise of a def, asked only where nothing is under way -/
structure GFn (P : Program) (w : World) (K : PySem.W.Frag) (mg : Str → Option Value) (base : Heap)
    (k : Nat) (f : Addr) (fd : FuncData) (ps : List Str) (sp : Sp) : Prop where
  len : ∀ vs H Q E, sp vs H Q E → vs.length = ps.length
  go : ∀ (A : Around), Quiet A → ∀ (outer : List Env) (s : Shared) (H : Hp) (args : Args) (us : List Value)
    (vs : List V) (Q : VK) (E : XK), Room k A → Env0 P w K mg base A outer s H → BindsTo s fd args (ps.zip us) →
    Vals vs us → sp vs H Q E → codeAny (model P w) A (.call (.ref f) args) (CR CX0 outer P w H s Q E) s

section
variable {P : Program} {w : World} {K : PySem.W.Frag} {mg : Str → Option Value} {base : Heap}
  {k j : Nat} {f : Addr} {fd : FuncData} {ps N : List Str} {sp : Sp} {x qual : Str} {st : Stmt}

theorem GFn.mono (F : GFn P w K mg base j f fd ps sp) (h : j ≤ k) : GFn P w K mg base k f fd ps sp :=
  ⟨F.len, fun A g outer s H args us vs Q E hr => F.go A g outer s H args us vs Q E (hr.mono h)⟩
theorem gfn (F : FnOk P w K mg base CX0 k f fd ps sp) : GFn P w K mg base k f fd ps sp :=
  ⟨F.len, fun A _ outer s H args us vs Q E => F.run A outer s H args us vs Q E⟩

/-- the rule for a def of the text -/
theorem gfn_of (F : Fun K x qual st f fd) (S : FnScope N ps (defScope st)) (len : ∀ vs H Q E, sp vs H Q E → vs.length = ps.length)
    (body : ∀ (cdv : Value) (A : Around) (outer : List Env) (s : Shared) (H : Hp) (vs : List V) (Q : VK) (E : XK),
      Quiet (A.deeper (envOfC qual (defScope st) s.heap.objs.size f cdv)) →
      Room k (A.deeper (envOfC qual (defScope st) s.heap.objs.size f cdv)) → sp vs H Q E →
      ∃ t, PSs (cxOf CX0 P w K mg base N qual (defScope st) f cdv A outer s H E).nox (defBody st) t ∧
        t { nx := fun _ H' => Q .non H', rt := Q } (start N vs) H) :
    GFn P w K mg base (k + 1) f fd ps sp := by
  obtain ⟨oc, od, kV, doc, pm, an, cdv, ct, osl, efd, lk, hcd⟩ := F.ex
  subst efd
  constructor
  · exact len
  intro A gA outer s H args us vs Q E room env bind rel want
  have old := fun b o e => (env.bs b o e).1
  have inS : K.In s.heap := env.mod.kin.keeps old
  have noLim : s.heap.NoLimit := env.mod.nolimit.keeps old
  have nL := len _ _ _ _ want
  have kinds : ∀ y ∈ ps.zip us, (defScope st).names.lookup y.1 = some .local ∨
      ((defScope st).names.lookup y.1 = some .cell ∧ ((cellsFrom (s.heap.objs.size + 1) (defScope st).names []).lookup y.1).isSome = true) := by
    intro y hy
    have hm : y.1 ∈ ps := (List.of_mem_zip (a := y.1) (b := y.2) hy).1
    cases S.par y.1 hm with
    | inl q => exact Or.inl q
    | inr q => exact Or.inr ⟨q, PySem.W.cellsFrom_some _ _ _ (Or.inl q)⟩
  apply codeAny_call_function room.depth (inS _ _ lk) rfl S.co S.gen rfl (PySem.W.codeRec_of inS hcd)
  apply bind
  refine wpAny_newFunctionEnv_cells S.kind kinds ?_
  intro env' e' s1 made
  cases e'
  refine ⟨noLim.keeps made.toInCall.keep, codeAny_func ?_⟩
  obtain ⟨t, der, read⟩ := body cdv A outer s H vs Q E gA (room.deeper _) want
  have I0 := inv_start (CX := CX0) (N := N) (E := E) (cd := cdv) (qual := qual) S room.hd env nL rel made
  have ran := der.nox.run [] s1 (start N vs) H _ I0 read
  refine wpAny_mono ran ?_ (fun _ _ z => z)
  intro fl s2 out
  cases fl with
  | brk => obtain ⟨_, _, _, z⟩ := out; exact z.elim
  | cont => obtain ⟨_, _, _, z⟩ := out; exact z.elim
  | next =>
    obtain ⟨_, H2, J, z⟩ := out
    exact ⟨V.non, H2, J.os, J.bare, J.base, J.hok, rfl, z⟩
  | ret u =>
    obtain ⟨v, _, H2, J, rv, z⟩ := out
    exact ⟨v, H2, J.os, J.bare, J.base, J.hok, rv, z⟩
end

section
variable {X : Cx} {k : Nat} {f : Addr} {fd : FuncData} {ps ks : List Str} {sp : Sp} {dvs : List V} {ds : List Value}
  {x : Str} {p pos kpos : Pos} {e : Expr} {es : List Expr} {t tk : TA} {kws : List Keyword}

def Back (X : Cx) (pins : List (Addr × Obj)) (σ : L2.St) (Q : VK) : Result → Shared → Prop
  | .ok (.ret u), s' => EP X pins σ Q u s'
  | _, _ => False
theorem out_of {pins : List (Addr × Obj)} {σ : L2.St} {H : Hp} {s s' : Shared} {Q : VK} {r : Result} (I : Inv X pins σ H s)
    (h : CR CX0 X.stack X.prog X.w H s Q E0 r s') : Back X pins σ Q r s' := by
  match r, h with
  | .ok (.ret u), h => exact I.after h
  | .ok .next, h => exact h
  | .ok .brk, h => exact h
  | .ok .cont, h => exact h
  | .error _, h => exact h

theorem g_run {pins : List (Addr × Obj)} {σ : L2.St} {H : Hp} {s : Shared} {Q : VK} {args : Args} {us : List Value} {vs : List V}
    (G : GFn X.prog X.w X.K X.mg X.base k f fd ps sp) (q : Quiet X.A) (hr : Room k X.A) (I : Inv X pins σ H s)
    (b : BindsTo s fd args (ps.zip us)) (r : Vals vs us) (h : sp vs H Q E0) :
    codeAny (model X.prog X.w) X.A (.call (.ref f) args) (Back X pins σ Q) s :=
  codeAny_mono (G.go X.A q X.stack s H args us vs Q E0 hr I.env0 b r h) fun _ _ z => out_of I z

/-- f(e, ..) -/
theorem pe_callG (G : GFn X.prog X.w X.K X.mg X.base k f fd ps sp) (q : Quiet X.A) (hr : Room k X.A) (hg : Gl X x) (hm : X.mg x = some (.ref f))
    (hk : PySem.W.keepIn X.K (.ref f) = true) (hb : Binds X.K fd ps ds) (hd : Vals dvs ds) (ha : PA X (e :: es) t)
    (hdb : (x == ("__debug__" : Str)) = false := by decide)
    (he : starEach (e :: es) X.env = (false, eval e X.env) :: starEach es X.env := by rfl)
    (hpl : (backTo pos (starEach es X.env)).any (·.1) = false := by rfl) :
    PE X (.Call (.Name x p) (e :: es) [] pos) (tCall sp dvs E0 t) := by
  constructor
  intro pins s σ H Q I want
  refine wpAny_Call_Name_kw (ld_glob I hg hm ?_ hdb)
  refine PySem.W.callWith_K (h₀ := X.base) I.ok.mod.kin hk ?_ he hpl
  refine thn (ha.run pos pins s σ H _ I want) ?_
  rintro us s1 ⟨vs, H1, I1, r, w1⟩
  refine ⟨I1.kIn, ?_⟩
  have r2 := r.append hd
  have n2 : (us ++ ds).length = ps.length := r2.length.symm.trans (G.len _ _ _ _ w1)
  refine wpAny_call (codeAny_mono (g_run G q hr I1 (hb s1 us I1.kIn n2) r2 w1) ?_)
  intro r s2 z
  match r, z with
  | .ok (.ret u), z => exact z

/-- f(e, .., k = v, ..) -/
theorem pe_callKG {g : List Value → List Value → List Value} {gV : List V → List V → List V} (G : GFn X.prog X.w X.K X.mg X.base k f fd ps sp) (q : Quiet X.A) (hr : Room k X.A) (hg : Gl X x)
    (hm : X.mg x = some (.ref f)) (hk : PySem.W.keepIn X.K (.ref f) = true) (hb : KBinds X.K fd ps ks g gV) (ha : PA X (e :: es) t) (hkw : PK X kws tk)
    (hall : (backToKw pos (keywordEach kws X.env)).all (·.1.isSome) = true := by rfl)
    (hks : (backToKw pos (keywordEach kws X.env)).filterMap (·.1) = ks := by rfl)
    (hdb : (x == ("__debug__" : Str)) = false := by decide)
    (he : starEach (e :: es) X.env = (false, eval e X.env) :: starEach es X.env := by rfl)
    (hpl : ((backTo pos (starEach (e :: es) X.env)).any (·.1) || (backToKw pos (keywordEach kws X.env)).any (·.1.isNone)) = false := by rfl) :
    PE X (.Call (.Name x p) (e :: es) kws pos) (tCallK sp gV E0 t tk) := by
  constructor
  intro pins s σ H Q I want
  refine wpAny_Call_Name_kw (ld_glob I hg hm ?_ hdb)
  refine PySem.W.callWith_KW (h₀ := X.base) I.ok.mod.kin hk hall ?_ hpl he
  refine thn (ha.run pos pins s σ H _ I want) ?_
  rintro us s1 ⟨vs, H1, I1, r, w1⟩
  refine thn (hkw.run pos pins s1 σ H1 _ I1 w1) ?_
  rintro ws s2 ⟨zs, H2, I2, rz, w2⟩
  refine ⟨I2.kIn, ?_⟩
  rw [hks]
  have r2 := hb.rel r rz
  have n2 : (g us ws).length = ps.length := r2.length.symm.trans (G.len _ _ _ _ w2)
  refine wpAny_call (codeAny_mono (g_run G q hr I2 (hb.to s2 us ws I2.kIn n2) r2 w2) ?_)
  intro r s3 z
  match r, z with
  | .ok (.ret u), z => exact z

/-- repr of data of lists and tuples -/
def rRepr (K : PySem.W.Frag) : List V → Hp → VK → Prop := fun xs H Q => ∃ (a : Addr) (d : PyData), xs = [.ref a] ∧ Dp K H (.ref a) d ∧
  d.showable = true ∧ d.hasDict = false ∧ d.depth ≤ 40 ∧ d.shown.length ≤ sizeLine ∧ Q (.str d.shown) H
theorem call_reprD (q : Quiet X.A) (hu : X.A.units + 64 < cLine) : CallR X (.builtin "repr") (rRepr X.K) := by
  intro pins s σ H xs us Q I r h
  obtain ⟨a, d, rfl, hd, h1, h2, h3, h4, w1⟩ := h
  obtain ⟨u, rfl, ru⟩ := vals1 r
  obtain rfl : u = Value.ref a := ru
  obtain ⟨as, rd⟩ := Dp.reads I d _ _ hd rfl
  refine repr_of_reads' rd h1 (PyData.noDict_hsm h2) q (by omega) (fun _ _ e => e) ?_ h4
  intro h' u tk keep
  exact ⟨.str d.shown, H, I.kept (t' := tk) keep, ⟨u, rfl⟩, w1⟩
end
end Kw
namespace Kw
open PySem PySem.Spec PyProof.Rows L2

/-- what stands tracked at the law's call: the script alone, or nothing -/
structure Entry (P : Program) (w : World) (K : PySem.W.Frag) (a : Addr) (xs : List V) (h : Heap) (H : Hp) : Prop where
  only : Only H
  seq : SqL K H a xs
  ok : HOk P w H h
  one : ∀ b, H b ≠ none → b = a ∧ K.lookup b = none

theorem entry_made {P : Program} {w : World} {K : PySem.W.Frag} {a : Addr} {vs : List Value} {ns : List Int} {h : Heap} (KX : K.In h)
    (ha : h.get? a = some { cls := .type "list", data := .seq vs.toArray }) (hi : IntsAre vs ns) (hl : ns.length ≤ sizeLine) :
    ∃ H, Entry P w K a (ns.map V.int) h H := by
  have rv : Vals (ns.map V.int) vs := vals_ints hi
  have hl' : (ns.map V.int).length ≤ sizeLine := by simpa using hl
  cases e : K.lookup a with
  | some o =>
    obtain rfl : o = { cls := .type "list", data := .seq vs.toArray } := Option.some.inj ((KX a o e).symm.trans ha)
    refine ⟨fun _ => none, fun _ => .inl rfl, ?_, fun b u z => by simp at z, fun b z => absurd rfl z⟩
    exact .inr ⟨_, vs.toArray, _, e, rfl, rfl, rfl, by rw [List.size_toArray, hi.length]; exact hl, by simpa using rv⟩
  | none =>
    let o : Obj := { cls := .type "list", data := .seq vs.toArray }
    let H : Hp := fun b => if b = a then some (.frz o (.lst (ns.map V.int))) else none
    have at_a : H a = some (.frz o (.lst (ns.map V.int))) := if_pos rfl
    have elsewhere : ∀ b, b ≠ a → H b = none := fun b hb => if_neg hb
    refine ⟨H, ?_, .inl (.inr ⟨o, at_a⟩), ?_, ?_⟩
    · intro b
      rcases Classical.em (b = a) with rfl | hb
      · exact .inr ⟨_, _, at_a⟩
      · exact .inl (elsewhere b hb)
    · intro b u z
      rcases Classical.em (b = a) with rfl | hb
      · rw [at_a] at z
        cases z
        exact ⟨ha, hl', vs, _, rv, ha⟩
      · rw [elsewhere b hb] at z
        cases z
    · intro b z
      rcases Classical.em (b = a) with rfl | hb
      · exact ⟨rfl, e⟩
      · exact absurd (elsewhere b hb) z

theorem law_callG {P : Program} {w : World} {K : PySem.W.Frag} {mg mb : Str → Option Value} {k : Nat} {fa a : Addr} {fd : FuncData} {x : Str} {sp : Sp} {s : Shared} {vs : List Value} {ns : List Int}
    (KX : K.In s.heap) (hns : s.heap.Ns mainGlobals mg) (hb : s.heap.Ns builtinsNs mb) (hbb : ∀ x : Str, x ≠ "__name__" → mb x = bootBuiltins x)
    (hlim : s.heap.NoLimit) (hg : s.gens = #[]) (ha : s.heap.get? a = some { cls := .type "list", data := .seq vs.toArray })
    (hi : IntsAre vs ns) (hl : ns.length ≤ sizeLine) (hr : Room k callerA)
    (F : ∀ base : Heap, K.In base → base.Ns mainGlobals mg → GFn P w K mg base k fa fd [x] sp)
    (bind : ∀ (s : Shared) (u : Value), BindsTo s fd ⟨[u], []⟩ [(x, u)])
    (want : ∀ H : Hp, SqL K H a (ns.map V.int) → sp [.ref a] H (fun v _ => v = .bl true) E0) :
    codeAny (model P w) callerA (.call (.ref fa) ⟨[.ref a], []⟩)
      (fun r s' => r = .ok (.ret (.bool true)) ∧ OldK s.heap s'.heap ∧ s'.os = s.os ∧ AllBare s'.gens) s := by
  obtain ⟨H, T⟩ := entry_made (P := P) (w := w) KX ha hi hl
  -- a dict is never the script, so the dicts of the modules stay in the base
  have noDict : ∀ {b : Addr} {o : Obj} {es : Array DictEntry} {ep : Nat}, s.heap.get? b = some o → o.data = .dict es ep → H b = none := by
    intro b o es ep e d
    cases q : H b with
    | none => rfl
    | some u =>
      obtain ⟨rfl, _⟩ := T.one b (by simp [q])
      rw [ha] at e
      cases e
      cases d
  have ns_base : ∀ {b : Addr} {m : Str → Option Value}, s.heap.Ns b m → (hidT s.heap H).Ns b m := by
    rintro b m ⟨o, es, ep, e, d, r⟩
    exact ⟨o, es, ep, hidT_get e (noDict e d), d, r⟩
  have K_base : K.In (hidT s.heap H) := by
    intro b o e
    refine hidT_get (KX b o e) ?_
    cases q : H b with
    | none => rfl
    | some u =>
      have z := (T.one b (by simp [q])).2
      rw [z] at e
      cases e
  have mod : Mod K mg (hidT s.heap H) := by
    obtain ⟨mc, l1, l2⟩ := hlim
    exact ⟨K_base, ns_base hns, ⟨mb, ns_base hb, hbb⟩, mc, ns_base l1, l2⟩
  have env : Env0 P w K mg (hidT s.heap H) callerA [] s H :=
    { frames := rfl, mod := mod, bs := fun b o e => of_hidT e, bsz := Nat.le_of_eq (hidT_size _ _), funs := trivial,
      frf := fun b z => absurd (show b ∈ ([] : List Addr) from z) (by simp), hok := T.ok, bare := .of_eq hg }
  refine codeAny_mono ((F _ K_base (ns_base hns)).go callerA rfl [] s H ⟨[.ref a], []⟩ [.ref a] [.ref a] _ _ hr env (bind s (.ref a)) (.cons rfl .nil) (want H T.seq)) ?_
  intro r s' z
  match r, z with
  | .ok (.ret u), z =>
    obtain ⟨v, H', os, bare, un, ok', rv, ev⟩ := z
    have ev : v = .bl true := ev
    subst ev
    obtain rfl : u = Value.bool true := rv
    refine ⟨rfl, OldK.of_keep ?_, os, bare⟩
    intro b o e
    cases q : H b with
    | none => exact un.keep b o e q (fun z => absurd (show b ∈ ([] : List Addr) from z) (by simp)) (by simp)
    | some u =>
      rcases T.only b with z | ⟨ob, xs, z⟩
      · rw [q] at z; cases z
      · have e1 := (T.ok b _ z).1
        have e2 := (ok' b _ (un.frzs b ob _ z)).1
        rw [e] at e1
        cases e1
        exact e2

theorem walk_G {l : PySem.W.OpenLaw} {n k : Nat} {q : Program} {loose : List Str} {XP : (Str → Option Value) → Heap → Prop} {YP : World → Heap → Prop} {d : DefRec} {K : Params → PySem.W.Frag} {sp : PySem.W.Frag → Sp} {x : Str}
    (hn : l.most = some n) (hn2 : n ≤ sizeLine) (hdf : d.params.defaults = []) (hr : Room k callerA) (hY : ∀ (w : World) (h : Heap), YP w h → (K w.params).In h)
    (F : ∀ (w : World) (mg : Str → Option Value) (fa : Addr) (h : Heap), (K w.params).In h → h.Ns mainGlobals mg → mg d.name = some (.ref fa) →
      ∃ fd : FuncData, (∀ (s : Shared) (u : Value), BindsTo s fd ⟨[u], []⟩ [(x, u)]) ∧
        ∀ base : Heap, (K w.params).In base → base.Ns mainGlobals mg → GFn l.prog w (K w.params) mg base k fa fd [x] (sp (K w.params)))
    (want : ∀ (K : PySem.W.Frag) (H : Hp) (a : Addr) (ns : List Int), ns.length ≤ n → SqL K H a (ns.map V.int) → sp K [.ref a] H (fun v _ => v = .bl true) E0) :
    PySem.W.WalkO q loose XP YP l.row.toRowW d [] (fun f vs => PySem.call f vs) := by
  apply Att.attach_call hn hdf
  intro w s₀ s₁ mg mb fa o pm cd doc a vs ns G Y ho hd hcd hmg hobj hints hlen hg
  obtain ⟨fd, b, go⟩ := F w mg fa s₁.heap (hY w _ Y) G.T.g hmg
  exact law_callG (hY w _ Y) G.T.g G.T.b G.T.builtins G.T.nolimit hg hobj hints (Nat.le_trans hlen hn2) hr go b (fun H z => want _ H a ns hlen z)
end Kw
namespace Kw
open PySem PySem.Spec PyProof.Rows L2 RZ StX SrtO
section
variable {X : Cx} {k : Nat} {f : Addr} {fd : FuncData} {ps ks : List Str} {sp : Sp} {x : Str} {p pos : Pos} {e : Expr} {es : List Expr} {t tk : TA} {kws : List Keyword}

theorem ip_mulW : PIp X .Mult (rI CMulW fun i j => .int (i * j)) := by
  intro pins s σ H x y v u Q I rx ry h
  obtain ⟨i, j, rfl, rfl, hc, q⟩ := h
  obtain ⟨t, rfl⟩ := rx
  obtain ⟨t', rfl⟩ := ry
  exact imul_int ⟨.int _, H, I.tok _, ⟨_, rfl⟩, q⟩ hc.ok
theorem ip_fdivW : PIp X .FloorDiv (rI CDivW fun i j => .int (i / j)) := fun pins s σ H x y v u Q I rx ry h => iop_fdivW pins s σ H x y v u Q I rx ry h

/-- f(k = v, ..): names alone -/
def tCallN (sp : Sp) (gV : List V → List V → List V) (t : TA) : TE := fun σ H Q => t σ H fun zs H1 => sp (gV [] zs) H1 Q E0
theorem pe_callN {g : List Value → List Value → List Value} {gV : List V → List V → List V} (G : GFn X.prog X.w X.K X.mg X.base k f fd ps sp) (q : Quiet X.A) (hr : Room k X.A) (hg : Gl X x)
    (hm : X.mg x = some (.ref f)) (hk : PySem.W.keepIn X.K (.ref f) = true) (hb : KBinds X.K fd ps ks g gV) (hkw : PK X kws tk)
    (hall : (backToKw pos (keywordEach kws X.env)).all (·.1.isSome) = true := by rfl)
    (hks : (backToKw pos (keywordEach kws X.env)).filterMap (·.1) = ks := by rfl)
    (hdb : (x == ("__debug__" : Str)) = false := by decide)
    (hpl : ((backTo pos (starEach [] X.env)).any (·.1) || (backToKw pos (keywordEach kws X.env)).any (·.1.isNone)) = false := by rfl) :
    PE X (.Call (.Name x p) [] kws pos) (tCallN sp gV tk) := by
  constructor
  intro pins s σ H Q I want
  refine wpAny_Call_Name_kw (ld_glob I hg hm ?_ hdb)
  refine PySem.W.callWith_KW0 (h₀ := X.base) I.ok.mod.kin hk hall ?_ hpl
  refine thn (hkw.run pos pins s σ H _ I want) ?_
  rintro ws s2 ⟨zs, H2, I2, rz, w2⟩
  refine ⟨I2.kIn, ?_⟩
  rw [hks]
  have r2 := hb.rel (vs := []) (us := []) .nil rz
  have n2 : (g [] ws).length = ps.length := r2.length.symm.trans (G.len _ _ _ _ w2)
  refine wpAny_call (codeAny_mono (g_run G q hr I2 (hb.to s2 [] ws I2.kIn n2) r2 w2) ?_)
  intro r s3 z
  match r, z with
  | .ok (.ret u), z => exact z
end

/-! ### heaps: what grows alone -/
theorem same_new {H : Hp} {p : Addr} (h : H p = none) (o : HO) : Same H (upd H p o) := fun b u q => by
  rw [upd_ne (ne_of_none q h)]
  exact q
theorem _root_.L2.Same.sqt {K : PySem.W.Frag} {H H' : Hp} {a : Addr} {xs : List V} (e : Same H H') (h : SqT K H a xs) : SqT K H' a xs := by
  rcases h with (h | ⟨o, h⟩) | h
  · exact .inl (.inl (e _ _ h))
  · exact .inl (.inr ⟨o, e _ _ h⟩)
  · exact .inr h
/-- written after what was there: kept too -/
theorem same_upd2 {H H' : Hp} {p : Addr} {o : HO} (e : Same H H') (h : H p = none) : Same H (upd H' p o) := fun b u q => by
  rw [upd_ne (ne_of_none q h)]
  exact e b u q

/-! ### the forms of comprehensions -/
/-- what a comprehension's list has come to: all else has only grown -/
def Lc (H1 : Hp) (D : Addr) (xs : Nat → List V) (i : Nat) (H : Hp) : Prop := Same H1 H ∧ H D = some (.lst (xs i))
theorem lc_start {H1 : Hp} {D : Addr} {xs : Nat → List V} (nD : H1 D = none) (h0 : xs 0 = []) : Lc H1 D xs 0 (upd H1 D (.lst [])) :=
  ⟨same_new nD _, by rw [upd_same, h0]⟩
theorem lc_leaf {H1 H4 : Hp} {D : Addr} {xs : Nat → List V} {i : Nat} {y : V} (nD : H1 D = none) (s : Same H1 H4) (e : H4 D = some (.lst (xs i)))
    (hl : (xs i).length ≤ 100000) (hy : xs (i + 1) = xs i ++ [y]) :
    ∃ acc, H4 D = some (.lst acc) ∧ acc.length < sizeLine ∧ Lc H1 D xs (i + 1) (upd H4 D (.lst (acc ++ [y]))) :=
  ⟨xs i, e, Nat.lt_of_le_of_lt hl (by decide), same_upd2 s nD, by rw [upd_same, hy]⟩
theorem lc_skip {H1 H3 : Hp} {D : Addr} {xs : Nat → List V} {i : Nat} (s : Same H1 H3) (e : H3 D = some (.lst (xs i))) (hy : xs (i + 1) = xs i) :
    Lc H1 D xs (i + 1) H3 := ⟨s, by rw [hy]; exact e⟩
theorem Lc.next {H1 H H' : Hp} {D : Addr} {xs : Nat → List V} {i : Nat} (h : Lc H1 D xs i H) (s : Same H H') : Lc H1 D xs i H' := ⟨h.1.trans s, s _ _ h.2⟩
/-- over zip of two tuples of one length -/
theorem lc_zipT {K : PySem.W.Frag} {a b : Addr} {xs ys : List V} {g : TG} {tt : TT} {te : TE} {vs : List Nat} {σ : L2.St} {H1 : Hp} {D : Addr} {Qd : Hp → Prop} (hl : xs.length = ys.length) (Pv : Nat → Hp → Prop) (h0 : Pv 0 (upd H1 D (.lst [])))
    (hq : ∀ i H, Pv i H → SqT K H a xs ∧ SqT K H b ys)
    (hs : ∀ (i : Nat) (x y : V) (T : Addr) (H : Hp), xs[i]? = some x → ys[i]? = some y → Pv i H → H T = none → g (.ref T) (wipe σ vs) (upd H T (.tup [x, y])) fun σ2 H2 => wipe σ2 vs = wipe σ vs ∧ tt σ2 H2 fun b H3 =>
      if b = true then te σ2 H3 fun y H4 => ∃ acc, H4 D = some (.lst acc) ∧ acc.length < sizeLine ∧ Pv (i + 1) (upd H4 D (.lst (acc ++ [y]))) else Pv (i + 1) H3)
    (hd : ∀ H, Pv xs.length H → Qd H) :
    ∃ W : Nat → Nat → Hp → Prop, (∃ m, W 0 m (upd H1 D (.lst []))) ∧ ∀ i m H, W i m H →
      ((ItzT K a b).stop i H ∧ Qd H) ∨ ((ItzT K a b).go i H ∧ ∃ Nx : Hp → Prop, (∀ H', Nx H' → ∃ m', m' < m ∧ W (i + 1) m' H') ∧ ∀ x H', (ItzT K a b).yld i H x H' → g x (wipe σ vs) H' fun σ2 H2 => wipe σ2 vs = wipe σ vs ∧ tt σ2 H2 fun b H3 =>
        if b = true then te σ2 H3 fun y H4 => ∃ acc, H4 D = some (.lst acc) ∧ acc.length < sizeLine ∧ Nx (upd H4 D (.lst (acc ++ [y]))) else Nx H3) := by
  refine ⟨fun i m H => m = xs.length - i ∧ i ≤ xs.length ∧ Pv i H, ⟨xs.length, rfl, Nat.zero_le _, h0⟩, ?_⟩
  rintro i m H ⟨em, hi, p⟩
  obtain ⟨qx, qy⟩ := hq i H p
  rcases Nat.lt_or_ge i xs.length with hlt | hge
  · have hx : xs[i]? = some xs[i] := List.getElem?_eq_getElem hlt
    have hy : ys[i]? = some (ys[i]'(hl ▸ hlt)) := List.getElem?_eq_getElem (hl ▸ hlt)
    refine .inr ⟨⟨xs, ys, _, _, qx, qy, hx, hy⟩, Pv (i + 1), fun H' p' => ⟨xs.length - (i + 1), by omega, rfl, hlt, p'⟩, ?_⟩
    rintro v H' ⟨T, x', y', rfl, hT, rfl, f1, f2⟩
    exact hs i x' y' T H (f1 xs qx) (f2 ys qy) p hT
  · obtain rfl : i = xs.length := by omega
    exact .inl ⟨⟨xs, ys, qx, qy, .inl (Nat.le_refl _)⟩, hd H p⟩
end Kw
namespace KL
open PySem PySem.Spec PyProof.Rows L2 RZ StX SrtO Kw KM
def topS (i : Nat) : Stmt := PySem.Challenge.pw_slantpanes_k03_far_cells_on_stripes.main.body.getD i (.Pass ⟨0, 0, 0, 0⟩)
abbrev s_is_integer : Stmt := topS 7
abbrev N_is_integer : List Str := ["thing"]
theorem sc_is_integer : FnScope N_is_integer ["thing"] (defScope s_is_integer) := ⟨rfl, rfl, rfl, by decide +kernel, rfl, by decide +kernel, by decide +kernel⟩
abbrev s_primes_of : Stmt := topS 8
abbrev N_primes_of : List Str := ["number", "p"]
theorem sc_primes_of : FnScope N_primes_of ["number"] (defScope s_primes_of) := ⟨rfl, rfl, rfl, by decide +kernel, rfl, by decide +kernel, by decide +kernel⟩
abbrev s_part_at : Stmt := topS 9
abbrev N_part_at : List Str := ["number", "p", "part"]
theorem sc_part_at : FnScope N_part_at ["number", "p"] (defScope s_part_at) := ⟨rfl, rfl, rfl, by decide +kernel, rfl, by decide +kernel, by decide +kernel⟩
abbrev s_common_divisor : Stmt := topS 10
abbrev N_common_divisor : List Str := ["number", "others", "divisor", "other"]
theorem sc_common_divisor : FnScope N_common_divisor ["number", "others"] (defScope s_common_divisor) := ⟨rfl, rfl, rfl, by decide +kernel, rfl, by decide +kernel, by decide +kernel⟩
abbrev s_is_period : Stmt := topS 14
abbrev N_is_period : List Str := ["thing", "rest", "multiplied", "p"]
theorem sc_is_period : FnScope N_is_period ["thing"] (defScope s_is_period) := ⟨rfl, rfl, rfl, by decide +kernel, rfl, by decide +kernel, by decide +kernel⟩
abbrev s_is_cell : Stmt := topS 15
abbrev N_is_cell : List Str := ["thing", "number"]
theorem sc_is_cell : FnScope N_is_cell ["thing"] (defScope s_is_cell) := ⟨rfl, rfl, rfl, by decide +kernel, rfl, by decide +kernel, by decide +kernel⟩
abbrev s_is_stripe : Stmt := topS 16
abbrev N_is_stripe : List Str := ["thing", "m", "c", "r", "number"]
theorem sc_is_stripe : FnScope N_is_stripe ["thing"] (defScope s_is_stripe) := ⟨rfl, rfl, rfl, by decide +kernel, rfl, by decide +kernel, by decide +kernel⟩
abbrev s_is_on : Stmt := topS 17
abbrev N_is_on : List Str := ["stripe", "cell"]
theorem sc_is_on : FnScope N_is_on ["stripe", "cell"] (defScope s_is_on) := ⟨rfl, rfl, rfl, by decide +kernel, rfl, by decide +kernel, by decide +kernel⟩
abbrev s_lies_on : Stmt := topS 18
abbrev N_lies_on : List Str := ["stripe", "cell", "m", "c", "r"]
theorem sc_lies_on : FnScope N_lies_on ["stripe", "cell"] (defScope s_lies_on) := ⟨rfl, rfl, rfl, by decide +kernel, rfl, by decide +kernel, by decide +kernel⟩
abbrev s_dot : Stmt := topS 19
abbrev N_dot : List Str := ["c", "x", "number", "along"]
theorem sc_dot : FnScope N_dot ["c", "x"] (defScope s_dot) := ⟨rfl, rfl, rfl, by decide +kernel, rfl, by decide +kernel, by decide +kernel⟩
abbrev s_check_stripe : Stmt := topS 20
abbrev N_check_stripe : List Str := ["thing"]
theorem sc_check_stripe : FnScope N_check_stripe ["thing"] (defScope s_check_stripe) := ⟨rfl, rfl, rfl, by decide +kernel, rfl, by decide +kernel, by decide +kernel⟩
abbrev s__law_deck : Stmt := topS 22
abbrev N__law_deck : List Str := ["_law_script", "_law_mixed", "_law_cell"]
theorem sc__law_deck : FnScope N__law_deck ["_law_script"] (defScope s__law_deck) := ⟨rfl, rfl, rfl, by decide +kernel, rfl, by decide +kernel, by decide +kernel⟩
abbrev s__law_draw : Stmt := topS 23
abbrev N__law_draw : List Str := ["_law_deck_here", "_law_many", "_law_number", "_law_cell"]
theorem sc__law_draw : FnScope N__law_draw ["_law_deck_here", "_law_many"] (defScope s__law_draw) := ⟨rfl, rfl, rfl, by decide +kernel, rfl, by decide +kernel, by decide +kernel⟩
abbrev s__law_pick : Stmt := topS 24
abbrev N__law_pick : List Str := ["_law_deck_here", "_law_some"]
theorem sc__law_pick : FnScope N__law_pick ["_law_deck_here", "_law_some"] (defScope s__law_pick) := ⟨rfl, rfl, rfl, by decide +kernel, rfl, by decide +kernel, by decide +kernel⟩
abbrev s__law_great : Stmt := topS 25
abbrev N__law_great : List Str := ["_law_deck_here", "_law_top", "_law_found", "_law_room"]
theorem sc__law_great : FnScope N__law_great ["_law_deck_here", "_law_top"] (defScope s__law_great) := ⟨rfl, rfl, rfl, by decide +kernel, rfl, by decide +kernel, by decide +kernel⟩
abbrev s__law_signed : Stmt := topS 26
abbrev N__law_signed : List Str := ["_law_deck_here", "_law_top", "_law_way", "_law_number"]
theorem sc__law_signed : FnScope N__law_signed ["_law_deck_here", "_law_top"] (defScope s__law_signed) := ⟨rfl, rfl, rfl, by decide +kernel, rfl, by decide +kernel, by decide +kernel⟩
abbrev s__law_powers : Stmt := topS 27
abbrev N__law_powers : List Str := ["_law_deck_here", "_law_top", "_law_most", "_law_some", "_law_product_here", "_law_rest", "_law_found", "_law_way", "_law_turn", "_law_p", "_law_pairs", "_law_q"]
theorem sc__law_powers : FnScope N__law_powers ["_law_deck_here", "_law_top", "_law_most"] (defScope s__law_powers) := ⟨rfl, rfl, rfl, by decide +kernel, rfl, by decide +kernel, by decide +kernel⟩
abbrev s__law_product : Stmt := topS 28
abbrev N__law_product : List Str := ["_law_some", "_law_found", "_law_x"]
theorem sc__law_product : FnScope N__law_product ["_law_some"] (defScope s__law_product) := ⟨rfl, rfl, rfl, by decide +kernel, rfl, by decide +kernel, by decide +kernel⟩
abbrev s__law_numbers : Stmt := topS 29
abbrev N__law_numbers : List Str := ["_law_deck_here", "_law_powers_here", "_law_m", "_law_d", "_law_found", "_law_at", "_law_way", "_law_number", "_law_p", "_law_q", "_law_x"]
theorem sc__law_numbers : FnScope N__law_numbers ["_law_deck_here", "_law_powers_here", "_law_m", "_law_d"] (defScope s__law_numbers) := ⟨rfl, rfl, rfl, by decide +kernel, rfl, by decide +kernel, by decide +kernel⟩
abbrev s__law_unit : Stmt := topS 30
abbrev N__law_unit : List Str := ["_law_deck_here", "_law_powers_here", "_law_m", "_law_number", "_law_p", "_law_q"]
theorem sc__law_unit : FnScope N__law_unit ["_law_deck_here", "_law_powers_here", "_law_m"] (defScope s__law_unit) := ⟨rfl, rfl, rfl, by decide +kernel, rfl, by decide +kernel, by decide +kernel⟩
abbrev s__law_along : Stmt := topS 31
abbrev N__law_along : List Str := ["_law_c", "_law_x", "_law_one", "_law_other"]
theorem sc__law_along : FnScope N__law_along ["_law_c", "_law_x"] (defScope s__law_along) := ⟨rfl, rfl, rfl, by decide +kernel, rfl, by decide +kernel, by decide +kernel⟩
abbrev s__law_common : Stmt := topS 32
abbrev N__law_common : List Str := ["_law_one", "_law_other"]
theorem sc__law_common : FnScope N__law_common ["_law_one", "_law_other"] (defScope s__law_common) := ⟨rfl, rfl, rfl, by decide +kernel, rfl, by decide +kernel, by decide +kernel⟩
abbrev s__law_moved : Stmt := topS 33
abbrev N__law_moved : List Str := ["_law_x", "_law_t", "_law_k", "_law_one", "_law_step_here"]
theorem sc__law_moved : FnScope N__law_moved ["_law_x", "_law_t", "_law_k"] (defScope s__law_moved) := ⟨rfl, rfl, rfl, by decide +kernel, rfl, by decide +kernel, by decide +kernel⟩
abbrev s__law_is_due : Stmt := topS 34
abbrev N__law_is_due : List Str := ["_law_stripe", "_law_cell", "_law_due"]
theorem sc__law_is_due : FnScope N__law_is_due ["_law_stripe", "_law_cell", "_law_due"] (defScope s__law_is_due) := ⟨rfl, rfl, rfl, by decide +kernel, rfl, by decide +kernel, by decide +kernel⟩
abbrev s__law_step : Stmt := topS 35
abbrev N__law_step : List Str := ["_law_deck_here", "_law_powers_here", "_law_d", "_law_some", "_law_p", "_law_q", "_law_at"]
theorem sc__law_step : FnScope N__law_step ["_law_deck_here", "_law_powers_here", "_law_d"] (defScope s__law_step) := ⟨rfl, rfl, rfl, by decide +kernel, rfl, by decide +kernel, by decide +kernel⟩
abbrev s__law_comes_again : Stmt := topS 36
abbrev N__law_comes_again : List Str := ["_law_deck_here", "_law_stripe", "_law_x", "_law_t", "_law_m", "_law_c", "_law_r", "_law_n", "_law_k", "_law_p"]
theorem sc__law_comes_again : FnScope N__law_comes_again ["_law_deck_here", "_law_stripe", "_law_x", "_law_t"] (defScope s__law_comes_again) := ⟨rfl, rfl, rfl, by decide +kernel, rfl, by decide +kernel, by decide +kernel⟩
abbrev s__law_is_of_parts : Stmt := topS 37
abbrev N__law_is_of_parts : List Str := ["_law_deck_here", "_law_powers_here", "_law_stripe", "_law_x", "_law_m", "_law_c", "_law_r", "_law_some", "_law_y", "_law_sure", "_law_p", "_law_q", "_law_is_part", "_law_at", "_law_a"]
theorem sc__law_is_of_parts : FnScope N__law_is_of_parts ["_law_deck_here", "_law_powers_here", "_law_stripe", "_law_x"] (defScope s__law_is_of_parts) := ⟨rfl, rfl, rfl, by decide +kernel, rfl, by decide +kernel, by decide +kernel⟩
abbrev s_law : Stmt := topS 38
abbrev N_law : List Str := ["_law_script", "_law_deck_here", "_law_powers_here", "_law_d", "_law_m", "_law_c", "_law_x", "_law_r", "_law_stripe", "_law_u", "_law_other", "_law_shift", "_law_turn", "_law_t", "_law_at", "_law_near", "_law_v", "_law_y", "_law_p", "_law_q", "_law_a", "_law_place"]
theorem sc_law : FnScope N_law ["_law_script"] (defScope s_law) := ⟨rfl, rfl, rfl, by decide +kernel, rfl, by decide +kernel, by decide +kernel⟩
def C_PRIMES : List Int := [2, 3, 5, 7, 11, 13, 17, 19, 23, 29]
def gkb_is_on_0_cell_stripe : List Value → List Value → List Value := fun (us ws : List Value) => match us, ws with | [], [k0, k1] => [k1, k0] | _, _ => []
def gkb_is_on_0_cell_stripeV : List V → List V → List V := fun (us ws : List V) => match us, ws with | [], [k0, k1] => [k1, k0] | _, _ => []
/-- what the top has made -/
structure Txt (K : PySem.W.Frag) (mg : Str → Option Value) where
  a_is_integer : Addr
  d_is_integer : FuncData
  F_is_integer : Fun K "is_integer" "is_integer" s_is_integer a_is_integer d_is_integer
  m_is_integer : mg "is_integer" = some (.ref a_is_integer)
  b_is_integer : Binds K d_is_integer ["thing"] []
  a_primes_of : Addr
  d_primes_of : FuncData
  F_primes_of : Fun K "primes_of" "primes_of" s_primes_of a_primes_of d_primes_of
  m_primes_of : mg "primes_of" = some (.ref a_primes_of)
  b_primes_of : Binds K d_primes_of ["number"] []
  a_part_at : Addr
  d_part_at : FuncData
  F_part_at : Fun K "part_at" "part_at" s_part_at a_part_at d_part_at
  m_part_at : mg "part_at" = some (.ref a_part_at)
  b_part_at : Binds K d_part_at ["number", "p"] []
  a_common_divisor : Addr
  d_common_divisor : FuncData
  F_common_divisor : Fun K "common_divisor" "common_divisor" s_common_divisor a_common_divisor d_common_divisor
  m_common_divisor : mg "common_divisor" = some (.ref a_common_divisor)
  b_common_divisor : Binds K d_common_divisor ["number", "others"] []
  a_is_period : Addr
  d_is_period : FuncData
  F_is_period : Fun K "is_period" "is_period" s_is_period a_is_period d_is_period
  m_is_period : mg "is_period" = some (.ref a_is_period)
  b_is_period : Binds K d_is_period ["thing"] []
  a_is_cell : Addr
  d_is_cell : FuncData
  F_is_cell : Fun K "is_cell" "is_cell" s_is_cell a_is_cell d_is_cell
  m_is_cell : mg "is_cell" = some (.ref a_is_cell)
  b_is_cell : Binds K d_is_cell ["thing"] []
  a_is_stripe : Addr
  d_is_stripe : FuncData
  F_is_stripe : Fun K "is_stripe" "is_stripe" s_is_stripe a_is_stripe d_is_stripe
  m_is_stripe : mg "is_stripe" = some (.ref a_is_stripe)
  b_is_stripe : Binds K d_is_stripe ["thing"] []
  a_is_on : Addr
  d_is_on : FuncData
  F_is_on : Fun K "is_on" "is_on" s_is_on a_is_on d_is_on
  m_is_on : mg "is_on" = some (.ref a_is_on)
  b_is_on : Binds K d_is_on ["stripe", "cell"] []
  a_lies_on : Addr
  d_lies_on : FuncData
  F_lies_on : Fun K "lies_on" "lies_on" s_lies_on a_lies_on d_lies_on
  m_lies_on : mg "lies_on" = some (.ref a_lies_on)
  b_lies_on : Binds K d_lies_on ["stripe", "cell"] []
  a_dot : Addr
  d_dot : FuncData
  F_dot : Fun K "dot" "dot" s_dot a_dot d_dot
  m_dot : mg "dot" = some (.ref a_dot)
  b_dot : Binds K d_dot ["c", "x"] []
  a_check_stripe : Addr
  d_check_stripe : FuncData
  F_check_stripe : Fun K "check_stripe" "check_stripe" s_check_stripe a_check_stripe d_check_stripe
  m_check_stripe : mg "check_stripe" = some (.ref a_check_stripe)
  b_check_stripe : Binds K d_check_stripe ["thing"] []
  a__law_deck : Addr
  d__law_deck : FuncData
  F__law_deck : Fun K "_law_deck" "_law_deck" s__law_deck a__law_deck d__law_deck
  m__law_deck : mg "_law_deck" = some (.ref a__law_deck)
  b__law_deck : Binds K d__law_deck ["_law_script"] []
  a__law_draw : Addr
  d__law_draw : FuncData
  F__law_draw : Fun K "_law_draw" "_law_draw" s__law_draw a__law_draw d__law_draw
  m__law_draw : mg "_law_draw" = some (.ref a__law_draw)
  b__law_draw : Binds K d__law_draw ["_law_deck_here", "_law_many"] []
  a__law_pick : Addr
  d__law_pick : FuncData
  F__law_pick : Fun K "_law_pick" "_law_pick" s__law_pick a__law_pick d__law_pick
  m__law_pick : mg "_law_pick" = some (.ref a__law_pick)
  b__law_pick : Binds K d__law_pick ["_law_deck_here", "_law_some"] []
  a__law_great : Addr
  d__law_great : FuncData
  F__law_great : Fun K "_law_great" "_law_great" s__law_great a__law_great d__law_great
  m__law_great : mg "_law_great" = some (.ref a__law_great)
  b__law_great : Binds K d__law_great ["_law_deck_here", "_law_top"] []
  a__law_signed : Addr
  d__law_signed : FuncData
  F__law_signed : Fun K "_law_signed" "_law_signed" s__law_signed a__law_signed d__law_signed
  m__law_signed : mg "_law_signed" = some (.ref a__law_signed)
  b__law_signed : Binds K d__law_signed ["_law_deck_here", "_law_top"] []
  a__law_powers : Addr
  d__law_powers : FuncData
  F__law_powers : Fun K "_law_powers" "_law_powers" s__law_powers a__law_powers d__law_powers
  m__law_powers : mg "_law_powers" = some (.ref a__law_powers)
  b__law_powers : Binds K d__law_powers ["_law_deck_here", "_law_top", "_law_most"] []
  a__law_product : Addr
  d__law_product : FuncData
  F__law_product : Fun K "_law_product" "_law_product" s__law_product a__law_product d__law_product
  m__law_product : mg "_law_product" = some (.ref a__law_product)
  b__law_product : Binds K d__law_product ["_law_some"] []
  a__law_numbers : Addr
  d__law_numbers : FuncData
  F__law_numbers : Fun K "_law_numbers" "_law_numbers" s__law_numbers a__law_numbers d__law_numbers
  m__law_numbers : mg "_law_numbers" = some (.ref a__law_numbers)
  b__law_numbers : Binds K d__law_numbers ["_law_deck_here", "_law_powers_here", "_law_m", "_law_d"] []
  a__law_unit : Addr
  d__law_unit : FuncData
  F__law_unit : Fun K "_law_unit" "_law_unit" s__law_unit a__law_unit d__law_unit
  m__law_unit : mg "_law_unit" = some (.ref a__law_unit)
  b__law_unit : Binds K d__law_unit ["_law_deck_here", "_law_powers_here", "_law_m"] []
  a__law_along : Addr
  d__law_along : FuncData
  F__law_along : Fun K "_law_along" "_law_along" s__law_along a__law_along d__law_along
  m__law_along : mg "_law_along" = some (.ref a__law_along)
  b__law_along : Binds K d__law_along ["_law_c", "_law_x"] []
  a__law_common : Addr
  d__law_common : FuncData
  F__law_common : Fun K "_law_common" "_law_common" s__law_common a__law_common d__law_common
  m__law_common : mg "_law_common" = some (.ref a__law_common)
  b__law_common : Binds K d__law_common ["_law_one", "_law_other"] []
  a__law_moved : Addr
  d__law_moved : FuncData
  F__law_moved : Fun K "_law_moved" "_law_moved" s__law_moved a__law_moved d__law_moved
  m__law_moved : mg "_law_moved" = some (.ref a__law_moved)
  b__law_moved : Binds K d__law_moved ["_law_x", "_law_t", "_law_k"] []
  a__law_is_due : Addr
  d__law_is_due : FuncData
  F__law_is_due : Fun K "_law_is_due" "_law_is_due" s__law_is_due a__law_is_due d__law_is_due
  m__law_is_due : mg "_law_is_due" = some (.ref a__law_is_due)
  b__law_is_due : Binds K d__law_is_due ["_law_stripe", "_law_cell", "_law_due"] []
  a__law_step : Addr
  d__law_step : FuncData
  F__law_step : Fun K "_law_step" "_law_step" s__law_step a__law_step d__law_step
  m__law_step : mg "_law_step" = some (.ref a__law_step)
  b__law_step : Binds K d__law_step ["_law_deck_here", "_law_powers_here", "_law_d"] []
  a__law_comes_again : Addr
  d__law_comes_again : FuncData
  F__law_comes_again : Fun K "_law_comes_again" "_law_comes_again" s__law_comes_again a__law_comes_again d__law_comes_again
  m__law_comes_again : mg "_law_comes_again" = some (.ref a__law_comes_again)
  b__law_comes_again : Binds K d__law_comes_again ["_law_deck_here", "_law_stripe", "_law_x", "_law_t"] []
  a__law_is_of_parts : Addr
  d__law_is_of_parts : FuncData
  F__law_is_of_parts : Fun K "_law_is_of_parts" "_law_is_of_parts" s__law_is_of_parts a__law_is_of_parts d__law_is_of_parts
  m__law_is_of_parts : mg "_law_is_of_parts" = some (.ref a__law_is_of_parts)
  b__law_is_of_parts : Binds K d__law_is_of_parts ["_law_deck_here", "_law_powers_here", "_law_stripe", "_law_x"] []
  a_law : Addr
  d_law : FuncData
  F_law : Fun K "law" "law" s_law a_law d_law
  m_law : mg "law" = some (.ref a_law)
  b_law : Binds K d_law ["_law_script"] []
  n_abs : mg "abs" = none
  n_all : mg "all" = none
  n_bool : mg "bool" = none
  n_int : mg "int" = none
  n_isinstance : mg "isinstance" = none
  n_len : mg "len" = none
  n_list : mg "list" = none
  n_max : mg "max" = none
  n_range : mg "range" = none
  n_repr : mg "repr" = none
  n_sorted : mg "sorted" = none
  n_sum : mg "sum" = none
  n_tuple : mg "tuple" = none
  n_zip : mg "zip" = none
  kb_is_on_0_cell_stripe : KBinds K d_is_on ["stripe", "cell"] ["cell", "stripe"] gkb_is_on_0_cell_stripe gkb_is_on_0_cell_stripeV
  m_gcd : mg "gcd" = some (.builtin "math.gcd")
  a_PRIMES : Addr
  m_PRIMES : mg "PRIMES" = some (.ref a_PRIMES)
  t_PRIMES : ∀ H : Hp, SqT K H a_PRIMES (C_PRIMES.map V.int)
  m_MOST_BREADTH : ∃ t, mg "MOST_BREADTH" = some (.int 3 t)
  m_MOST_PRIMES_MULTIPLIED : ∃ t, mg "MOST_PRIMES_MULTIPLIED" = some (.int 1000 t)
section
variable {K : PySem.W.Frag} {X : Cx} {x : Str} {pos : Pos}
theorem g_PRIMES (T : Txt X.K X.mg) (hg : Gl X "PRIMES") : PE X (.Name "PRIMES" pos) (tC (.ref T.a_PRIMES)) := pe_glob hg T.m_PRIMES rfl
theorem g_MOST_BREADTH (T : Txt X.K X.mg) (hg : Gl X "MOST_BREADTH") : PE X (.Name "MOST_BREADTH" pos) (tC (.int 3)) := by
  obtain ⟨t, e⟩ := T.m_MOST_BREADTH
  exact pe_glob hg e ⟨t, rfl⟩
theorem g_MOST_PRIMES_MULTIPLIED (T : Txt X.K X.mg) (hg : Gl X "MOST_PRIMES_MULTIPLIED") : PE X (.Name "MOST_PRIMES_MULTIPLIED" pos) (tC (.int 1000)) := by
  obtain ⟨t, e⟩ := T.m_MOST_PRIMES_MULTIPLIED
  exact pe_glob hg e ⟨t, rfl⟩
theorem v_int (T : Txt X.K X.mg) (hg : Gl X "int") : PE X (.Name "int" pos) (tC (.ty "int")) := pe_bltn hg T.n_int (by decide +kernel) rfl
theorem v_bool (T : Txt X.K X.mg) (hg : Gl X "bool") : PE X (.Name "bool" pos) (tC (.ty "bool")) := pe_bltn hg T.n_bool (by decide +kernel) rfl
theorem v_tuple (T : Txt X.K X.mg) (hg : Gl X "tuple") : PE X (.Name "tuple" pos) (tC (.ty "tuple")) := pe_bltn hg T.n_tuple (by decide +kernel) rfl
theorem v_list (T : Txt X.K X.mg) (hg : Gl X "list") : PE X (.Name "list" pos) (tC (.ty "list")) := pe_bltn hg T.n_list (by decide +kernel) rfl
end
end KL
namespace KL
open PySem PySem.Spec PyProof.Rows L2 RZ StX SrtO Kw
section
variable {P : Program} {w : World} {K : PySem.W.Frag} {mg : Str → Option Value} {base : Heap}

/-! ### is_integer, of ints alone -/
def sp_is_integer : Sp := fun vs H Q _ => ∃ i : Int, vs = [.int i] ∧ Q (.bl true) H
theorem ok_is_integer (T : Txt K mg) : FnOk P w K mg base CX0 1 T.a_is_integer T.d_is_integer ["thing"] sp_is_integer := by
  refine T.F_is_integer.ok sc_is_integer (fun vs H Q E h => ?_) (fun cdv A outer s H vs Q E hr h => ?_)
  · obtain ⟨i, rfl, _⟩ := h
    rfl
  obtain ⟨i, rfl, q⟩ := h
  refine ⟨_, pss_one (ps_ret (pe_and (pe_callB call_isi (by rfl) T.n_isinstance (by decide +kernel) (pa_cons (pv 0) (pa_cons (v_int T (by rfl)) pa_nil))) (pe_one (pe_not (pe_callB call_isi (by rfl) T.n_isinstance (by decide +kernel) (pa_cons (pv 0) (pa_cons (v_bool T (by rfl)) pa_nil))))))), ?_⟩
  refine ⟨_, rfl, _, _, _, _, _, rfl, ClsV.ty _, .base (.int i), kit_ty (r := true) (by decide +kernel), true, rfl, iteT ?_⟩
  exact ⟨_, rfl, _, _, _, _, _, rfl, ClsV.ty _, .base (.int i), kit_ty (r := false) (by decide +kernel), false, rfl, q⟩
theorem cl_is_integer {X : Cx} {p pos : Pos} {e : Expr} {es : List Expr} {t : TA} (T : Txt K mg) (hr : Room 1 X.A) (ha : PA X (e :: es) t) (hg : Gl X "is_integer" := by rfl)
    (he : starEach (e :: es) X.env = (false, eval e X.env) :: starEach es X.env := by rfl) (hpl : (backTo pos (starEach es X.env)).any (·.1) = false := by rfl) (hK : X.K = K := by rfl) (hmg : X.mg = mg := by rfl) :
    PE X (.Call (.Name "is_integer" p) (e :: es) [] pos) (tCall sp_is_integer [] E0 t) := by
  subst hK hmg
  exact pe_call (ok_is_integer T) hr hg T.m_is_integer T.F_is_integer.kp T.b_is_integer .nil pass0 ha (by decide) he hpl
/-! ### primes_of -/
def primesOf (n : Int) : List Int := C_PRIMES.filter fun p => decide (n.fmod p = 0)
def sp_primes_of : Sp := fun vs H Q _ => ∃ n : Int, vs = [.int n] ∧ ∀ p H', Same H H' → H p = none → H' p = some (.lst ((primesOf n).map V.int)) → Q (.ref p) H'
theorem PR_pos : ∀ p ∈ C_PRIMES, (2 : Int) ≤ p ∧ p ≤ 29 := by decide
def upto (n : Int) (i : Nat) : List V := ((C_PRIMES.take i).filter fun p => decide (n.fmod p = 0)).map V.int
theorem upto_next {n : Int} {i : Nat} {p : Int} (h : C_PRIMES[i]? = some p) : upto n (i + 1) = if n.fmod p = 0 then upto n i ++ [.int p] else upto n i := by
  unfold upto
  rw [List.take_add_one, h, List.filter_append, List.map_append]
  by_cases c : n.fmod p = 0 <;> simp [c]
theorem upto_len (n : Int) (i : Nat) : (upto n i).length ≤ 10 := by
  unfold upto
  rw [List.length_map]
  refine Nat.le_trans (List.length_filter_le _ _) ?_
  rw [List.length_take]
  exact Nat.min_le_right _ _
theorem upto_all (n : Int) : upto n 10 = (primesOf n).map V.int := rfl
theorem ok_primes_of (T : Txt K mg) : FnOk P w K mg base CX0 1 T.a_primes_of T.d_primes_of ["number"] sp_primes_of := by
  refine T.F_primes_of.ok sc_primes_of (fun vs H Q E h => ?_) (fun cdv A outer s H vs Q E hr h => ?_)
  · obtain ⟨i, rfl, _⟩ := h
    rfl
  obtain ⟨n, rfl, q⟩ := h
  refine ⟨_, pss_one (ps_ret (pe_lc (own := [("p", 1)]) rfl sc_primes_of.nd (pi_tup (g_PRIMES T (by rfl))) (blkOk_by (N := N_primes_of) (sc := defScope s_primes_of) (by decide +kernel)) (fun _ _ _ _ _ => (pg_name (i := 1) sc_primes_of.nd rfl (Or.inl rfl))) (fun _ _ _ _ _ => (pts_one (pt_cmpR op_eq (pe_op op_modN (pv 0) (pv 1)) pe_int (nomark _)))) (fun _ _ _ _ _ => (pv 1)))), ?_⟩
  refine ⟨_, rfl, ⟨_, T.t_PRIMES H⟩, fun D nD => lc_tup (xs := C_PRIMES.map V.int) (Lc H D (upto n)) (lc_start nD rfl) (fun _ _ _ _ => T.t_PRIMES _) (fun i x H1 hx h => ?_) (fun H1 h => ?_)⟩
  · rw [List.getElem?_map] at hx
    obtain ⟨p, hp, rfl⟩ := Option.map_eq_some_iff.mp hx
    have hpp := PR_pos p (List.mem_of_getElem? hp)
    refine ⟨rfl, _, rfl, _, rfl, _, _, rfl, rfl, (by show p ≠ 0; omega), rfl, _, rfl, ?_⟩
    have hn := upto_next (n := n) hp
    refine ite2 (fun c => ?_) (fun c => ?_)
    · have c : n.fmod p = 0 := V.int.inj (of_decide_eq_true c)
      rw [if_pos c] at hn
      exact ⟨_, rfl, lc_leaf nD h.1 h.2 (Nat.le_trans (upto_len n i) (by decide)) hn⟩
    · have c : ¬ n.fmod p = 0 := fun z => c (decide_eq_true (congrArg V.int z))
      rw [if_neg c] at hn
      exact lc_skip h.1 h.2 hn
  · exact q D H1 h.1 nD h.2
end
end KL
namespace KL
open PySem PySem.Spec PyProof.Rows L2 RZ StX SrtO Kw
/-! ### bounds -/
/-- below 2 ^ b in size -/
def Bd (b : Nat) (i : Int) : Prop := i.natAbs < 2 ^ b
theorem Bd.mono {a b : Nat} {i : Int} (h : Bd a i) (l : a ≤ b) : Bd b i := Nat.lt_of_lt_of_le h (Nat.pow_le_pow_right (by decide) l)
theorem Bd.mul {a b : Nat} {i j : Int} (h : Bd a i) (h' : Bd b j) : Bd (a + b) (i * j) := wide_lt h h'
theorem Bd.add {a : Nat} {i j : Int} (h : Bd a i) (h' : Bd a j) : Bd (a + 1) (i + j) := by
  unfold Bd at *
  have := Int.natAbs_add_le i j
  rw [Nat.pow_succ]
  omega
theorem Bd.sub {a : Nat} {i j : Int} (h : Bd a i) (h' : Bd a j) : Bd (a + 1) (i - j) := by
  unfold Bd at *
  rw [Nat.pow_succ]
  omega
theorem Bd.neg {a : Nat} {i : Int} (h : Bd a i) : Bd a (-i) := by
  unfold Bd at *
  omega
theorem Bd.le {a : Nat} {i j : Int} (h0 : 0 ≤ i) (h : i ≤ j) (h' : Bd a j) : Bd a i := by
  unfold Bd at *
  omega
theorem Bd.mulOk {a b : Nat} {i j : Int} (h : Bd a i) (h' : Bd b j) (l : a + b ≤ 90000 := by omega) : CMulW i j := by
  have q : ∀ {c : Nat} {z : Int}, Bd c z → Bd (c + 1) z := fun h => h.mono (Nat.le_succ _)
  exact wide_mul (q h) (q h') (by omega) (by omega) (by omega)
theorem Bd.divOk {b : Nat} {j : Int} (h0 : 0 < j) (h : Bd b j) (l : b ≤ 8000 := by omega) : ∀ i, CDivW i j := fun i =>
  wide_div h0 (h.mono (Nat.le_succ b)) (by omega) (by omega)
theorem ip_mulS {X : Cx} : PIp X .Mult (rI CMul fun i j => .int (i * j)) := by
  intro pins s σ H x y v u Q I rx ry h
  obtain ⟨i, j, rfl, rfl, hc, q⟩ := h
  obtain ⟨t, rfl⟩ := rx
  obtain ⟨t', rfl⟩ := ry
  exact imul_int ⟨.int _, H, I.tok _, ⟨_, rfl⟩, q⟩ hc.ok
section
variable {P : Program} {w : World} {K : PySem.W.Frag} {mg : Str → Option Value} {base : Heap}
theorem cl_primes_of {X : Cx} {p pos : Pos} {e : Expr} {es : List Expr} {t : TA} (T : Txt K mg) (hr : Room 1 X.A) (ha : PA X (e :: es) t) (hg : Gl X "primes_of" := by rfl)
    (he : starEach (e :: es) X.env = (false, eval e X.env) :: starEach es X.env := by rfl) (hpl : (backTo pos (starEach es X.env)).any (·.1) = false := by rfl) (hK : X.K = K := by rfl) (hmg : X.mg = mg := by rfl) :
    PE X (.Call (.Name "primes_of" p) (e :: es) [] pos) (tCall sp_primes_of [] E0 t) := by
  subst hK hmg
  exact pe_call (ok_primes_of T) hr hg T.m_primes_of T.F_primes_of.kp T.b_primes_of .nil pass0 ha (by decide) he hpl
/-! ### part_at -/
def sp_part_at : Sp := fun vs H Q _ => ∃ (n p : Nat), vs = [.int n, .int p] ∧ 1 ≤ n ∧ 2 ≤ p ∧ p ≤ 29 ∧ ∀ k : Nat, p ^ k ∣ n → ¬ p ^ (k + 1) ∣ n → Q (.int ((p ^ k : Nat) : Int)) H
theorem ok_part_at (T : Txt K mg) : FnOk P w K mg base CX0 1 T.a_part_at T.d_part_at ["number", "p"] sp_part_at := by
  refine T.F_part_at.ok sc_part_at (fun vs H Q E h => ?_) (fun cdv A outer s H vs Q E hr h => ?_)
  · obtain ⟨n, p, rfl, _⟩ := h
    rfl
  obtain ⟨n, p, rfl, hn, h2, h29, q⟩ := h
  refine ⟨_, pss_cons (ps_set (i := 2) sc_part_at.nd rfl (Or.inl rfl) pe_int)
    (pss_cons (ps_while PassesOwn.never (pt_cmpR op_eq (pe_op op_mod (pv 0) (pv 1)) pe_int (nomark _)) (pss_cons (ps_aug (i := 0) sc_part_at.nd rfl (Or.inl rfl) (pv 1) ip_fdivW)
        (pss_one (ps_aug (i := 2) sc_part_at.nd rfl (Or.inl rfl) (pv 1) ip_mulS))))
    (pss_one (ps_ret (pv 2)))), ?_⟩
  have hp0 : (0 : Int) < p := by omega
  refine ⟨fun m σ H' => ∃ k : Nat, σ = [some (.int (m : Int)), some (.int p), some (.int ((p ^ k : Nat) : Int))] ∧ H = H' ∧ n = p ^ k * m ∧ 1 ≤ m, ⟨n, 0, rfl, rfl, by simp, hn⟩, ?_⟩
  rintro m σ H' ⟨k, rfl, rfl, e, hm⟩
  refine ⟨_, rfl, _, rfl, _, _, rfl, rfl, hp0, rfl, _, rfl, ite2 (fun c => ?_) (fun c => ?_)⟩
  · have c : (m : Int) % p = 0 := V.int.inj (of_decide_eq_true c)
    have c' : m % p = 0 := by omega
    have d := Nat.div_add_mod m p
    have lt : m / p < m := Nat.div_lt_self (by omega) (by omega)
    have pos : 1 ≤ m / p := by
      rcases Nat.eq_zero_or_pos (m / p) with z | z
      · rw [z, c'] at d
        omega
      · exact z
    refine ⟨fun σ H' => ∃ k : Nat, σ = [some (.int ((m / p : Nat) : Int)), some (.int p), some (.int ((p ^ k : Nat) : Int))] ∧ H = H' ∧ n = p ^ k * (m / p) ∧ 1 ≤ m / p, fun σ' H' z => ⟨m / p, lt, z⟩, ?_⟩
    refine ⟨_, rfl, _, rfl, _, _, rfl, rfl, wide_div (b := 5) hp0 (by show (p : Int).natAbs < 32; omega) (by decide) (by decide), ?_⟩
    refine ⟨_, rfl, _, rfl, _, _, rfl, rfl, .inr ⟨by omega, by omega⟩, k + 1, ?_, rfl, ?_, pos⟩
    · rw [Nat.pow_succ]
      rfl
    · rw [Nat.pow_succ, Nat.mul_assoc, e]
      congr 1
      omega
  · have c : ¬ (m : Int) % p = 0 := fun z => c (decide_eq_true (congrArg V.int z))
    have c' : ¬ p ∣ m := fun z => c (by have := Nat.mod_eq_zero_of_dvd z; omega)
    refine ⟨_, rfl, q k ?_ ?_⟩
    · rw [e]
      exact Nat.dvd_mul_right _ _
    · rw [e, Nat.pow_succ]
      exact fun z => c' (Nat.dvd_of_mul_dvd_mul_left (Nat.pow_pos (by omega)) z)
theorem cl_part_at {X : Cx} {p pos : Pos} {e : Expr} {es : List Expr} {t : TA} (T : Txt K mg) (hr : Room 1 X.A) (ha : PA X (e :: es) t) (hg : Gl X "part_at" := by rfl)
    (he : starEach (e :: es) X.env = (false, eval e X.env) :: starEach es X.env := by rfl) (hpl : (backTo pos (starEach es X.env)).any (·.1) = false := by rfl) (hK : X.K = K := by rfl) (hmg : X.mg = mg := by rfl) :
    PE X (.Call (.Name "part_at" p) (e :: es) [] pos) (tCall sp_part_at [] E0 t) := by
  subst hK hmg
  exact pe_call (ok_part_at T) hr hg T.m_part_at T.F_part_at.kp T.b_part_at .nil pass0 ha (by decide) he hpl
/-! ### common_divisor -/
def gcdL (m : Int) (cs : List Int) : Int := cs.foldl (fun g c => ((Nat.gcd g.natAbs c.natAbs : Nat) : Int)) m
def sp_common_divisor (K : PySem.W.Frag) : Sp := fun vs H Q _ => ∃ (m : Int) (a : Addr) (cs : List Int), vs = [.int m, .ref a] ∧ SqT K H a (cs.map V.int) ∧ Q (.int (gcdL m cs)) H
theorem ok_common_divisor (T : Txt K mg) : FnOk P w K mg base CX0 1 T.a_common_divisor T.d_common_divisor ["number", "others"] (sp_common_divisor K) := by
  refine T.F_common_divisor.ok sc_common_divisor (fun vs H Q E h => ?_) (fun cdv A outer s H vs Q E hr h => ?_)
  · obtain ⟨m, a, cs, rfl, _⟩ := h
    rfl
  obtain ⟨m, a, cs, rfl, hs, q⟩ := h
  refine ⟨_, pss_cons (ps_set (i := 2) sc_common_divisor.nd rfl (Or.inl rfl) (pv 0))
    (pss_cons (ps_for PassesOwn.never rfl (pi_tup (pv 1)) (pg_name (i := 3) sc_common_divisor.nd rfl (Or.inl rfl)) (pss_one (ps_set (i := 2) sc_common_divisor.nd rfl (Or.inl rfl) (pe_callBfun cr_gcd (by rfl) T.m_gcd (pa_cons (pv 2) (pa_cons (pv 3) pa_nil))))))
    (pss_one (ps_ret (pv 2)))), ?_⟩
  refine ⟨_, rfl, _, rfl, _, rfl, ⟨_, hs⟩, for_tup (xs := cs.map V.int) (fun i σ H' => ∃ z, σ = [some (.int m), some (.ref a), some (.int (gcdL m (cs.take i))), z] ∧ H = H') ⟨none, rfl, rfl⟩ ?_ ?_ ?_⟩
  · rintro i σ H' _ ⟨z, rfl, rfl⟩
    exact hs
  · rintro i x σ H' hx ⟨z, rfl, rfl⟩
    rw [List.getElem?_map] at hx
    obtain ⟨c, hc, rfl⟩ := Option.map_eq_some_iff.mp hx
    refine ⟨_, rfl, _, rfl, _, _, rfl, some (.int c), ?_, rfl⟩
    rw [List.take_add_one, hc]
    show _ = [_, _, some (V.int (gcdL m (cs.take i ++ [c]))), _]
    unfold gcdL
    rw [List.foldl_append]
    rfl
  · rintro σ H' ⟨z, rfl, rfl⟩
    refine ⟨_, rfl, ?_⟩
    rw [List.length_map, List.take_length]
    exact q
theorem cl_common_divisor {X : Cx} {p pos : Pos} {e : Expr} {es : List Expr} {t : TA} (T : Txt K mg) (hr : Room 1 X.A) (ha : PA X (e :: es) t) (hg : Gl X "common_divisor" := by rfl)
    (he : starEach (e :: es) X.env = (false, eval e X.env) :: starEach es X.env := by rfl) (hpl : (backTo pos (starEach es X.env)).any (·.1) = false := by rfl) (hK : X.K = K := by rfl) (hmg : X.mg = mg := by rfl) :
    PE X (.Call (.Name "common_divisor" p) (e :: es) [] pos) (tCall (sp_common_divisor K) [] E0 t) := by
  subst hK hmg
  exact pe_call (ok_common_divisor T) hr hg T.m_common_divisor T.F_common_divisor.kp T.b_common_divisor .nil pass0 ha (by decide) he hpl
end
end KL
namespace KL
open PySem PySem.Spec PyProof.Rows L2 RZ StX SrtO Kw KM
/-! ### periods -/
def prodP : List (Nat × Nat) → Nat
  | [] => 1
  | x :: r => x.1 * prodP r
abbrev intsN (l : List Nat) : List Int := l.map fun p : Nat => (p : Int)
theorem PR_PN : C_PRIMES = intsN PN := by decide
theorem fmod_dvd {m p : Nat} (hp : 2 ≤ p) : ((m : Int).fmod p = 0) ↔ p ∣ m := by
  rw [Int.fmod_eq_emod_of_nonneg _ (by omega)]
  constructor
  · intro h
    exact Nat.dvd_of_mod_eq_zero (by omega)
  · intro h
    have := Nat.mod_eq_zero_of_dvd h
    omega
theorem primesOf_mOf {pw : List (Nat × Nat)} (h : Pw pw) : primesOf (mOf pw : Nat) = intsN (pw.map (·.1)) := by
  rw [← primes_mOf h]
  unfold primesOf
  rw [PR_PN]
  unfold intsN
  rw [List.filter_map]
  congr 1
  refine List.filter_congr fun p hp => ?_
  have := PN_lt p hp
  show decide (((mOf pw : Nat) : Int).fmod (p : Int) = 0) = decide (p ∣ mOf pw)
  exact decide_eq_decide.mpr (fmod_dvd this.1)
theorem _root_.KM.Pw.drop {pw : List (Nat × Nat)} (h : Pw pw) : ∀ i, Pw (pw.drop i)
  | 0 => h
  | i + 1 => by
    have ih := KM.Pw.drop h i
    rw [show pw.drop (i + 1) = (pw.drop i).tail by simp]
    cases e : pw.drop i with
    | nil => rw [e] at ih; exact ih
    | cons x r => rw [e] at ih; exact ih.tail
theorem mOf_drop_dvd {pw : List (Nat × Nat)} : ∀ i, mOf (pw.drop i) ∣ mOf pw
  | 0 => Nat.dvd_refl _
  | i + 1 => by
    have ih := mOf_drop_dvd (pw := pw) i
    refine Nat.dvd_trans ?_ ih
    rw [show pw.drop (i + 1) = (pw.drop i).tail by simp]
    cases pw.drop i with
    | nil => exact Nat.dvd_refl _
    | cons x r => exact Nat.dvd_mul_left _ _
theorem prodP_append : ∀ (a : List (Nat × Nat)) (x : Nat × Nat), prodP (a ++ [x]) = prodP a * x.1
  | [], x => by simp [prodP]
  | y :: a, x => by
    show y.1 * prodP (a ++ [x]) = y.1 * prodP a * x.1
    rw [prodP_append a x, Nat.mul_assoc]
/-- a period as the program takes it -/
structure Per (pw : List (Nat × Nat)) : Prop where
  ok : Pw pw
  few : prodP pw ≤ 1000
  bd : mOf pw < 2 ^ 2000
def sp_is_period : Sp := fun vs H Q _ => ∃ pw, Per pw ∧ vs = [.int ((mOf pw : Nat) : Int)] ∧ ∀ H', Same H H' → Q (.bl true) H'
section
variable {P : Program} {w : World} {K : PySem.W.Frag} {mg : Str → Option Value} {base : Heap}
theorem ok_is_period (T : Txt K mg) : FnOk P w K mg base CX0 2 T.a_is_period T.d_is_period ["thing"] sp_is_period := by
  refine T.F_is_period.ok sc_is_period (fun vs H Q E h => ?_) (fun cdv A outer s H vs Q E hr h => ?_)
  · obtain ⟨pw, _, rfl, _⟩ := h
    rfl
  obtain ⟨pw, hp, rfl, q⟩ := h
  refine ⟨_, pss_cons (ps_if (PW.pt (pw_or (pt_not (pt_val (cl_is_integer T (hr.mono (by decide)) (pa_cons (pv 0) pa_nil)))) (pw_or1 (pt_cmpR op_lt (pv 0) pe_int (nomark _))))) (pss_one (ps_ret pe_bl)) pss_nil)
    (pss_cons (ps_par (i := 1) (j := 2) (by rfl) sc_is_period.nd rfl rfl (by decide) rfl rfl (pa_cons (pv 0) (pa_cons pe_int pa_nil)) (by rfl))
    (pss_cons (ps_for PassesOwn.never rfl (pi_list (cl_primes_of T (hr.mono (by decide)) (pa_cons (pv 0) pa_nil))) (pg_name (i := 3) sc_is_period.nd rfl (Or.inl rfl)) (pss_cons (ps_aug (i := 1) sc_is_period.nd rfl (Or.inl rfl) (cl_part_at T (hr.mono (by decide)) (pa_cons (pv 1) (pa_cons (pv 3) pa_nil))) ip_fdivW)
        (pss_one (ps_aug (i := 2) sc_is_period.nd rfl (Or.inl rfl) (pv 3) ip_mulS))))
    (pss_one (ps_ret (pe_and (pe_cmpR op_eq (pv 1) pe_int (nomark _)) (pe_one (pe_cmpR op_le (pv 2) (g_MOST_PRIMES_MULTIPLIED T (by rfl)) (nomark _)))))))), ?_⟩
  have hm := mOf_pos hp.ok
  refine ⟨_, rfl, _, rfl, true, rfl, iteF ?_⟩
  refine ⟨_, rfl, _, _, rfl, rfl, _, rfl, ite2 (fun c => ?_) (fun _ => ?_)⟩
  · have c := of_decide_eq_true c
    omega
  refine ⟨_, rfl, _, _, rfl, ?_⟩
  refine ⟨_, rfl, _, rfl, fun a H1 s1 na ea => ?_⟩
  rw [primesOf_mOf hp.ok] at ea
  refine ⟨a, rfl, ⟨_, SqL.of ea⟩, for_list (xs := (intsN (pw.map (·.1))).map V.int) (fun i σ H' => ∃ z, σ = [some (.int ((mOf pw : Nat) : Int)), some (.int ((mOf (pw.drop i) : Nat) : Int)), some (.int ((prodP (pw.take i) : Nat) : Int)), z] ∧ H1 = H') ⟨none, rfl, rfl⟩ ?_ ?_ ?_⟩
  · rintro i σ H' _ ⟨z, rfl, rfl⟩
    exact SqL.of ea
  · rintro i x σ H' hx ⟨z, rfl, rfl⟩
    rw [List.getElem?_map, List.getElem?_map, List.getElem?_map] at hx
    obtain ⟨y, hy, e⟩ : ∃ y, pw[i]? = some y ∧ V.int (y.1 : Int) = x := by
      cases e : pw[i]? with
      | none => rw [e] at hx; cases hx
      | some y => rw [e] at hx; exact ⟨y, rfl, Option.some.inj hx⟩
    subst e
    have hd : pw.drop i = y :: pw.drop (i + 1) := by
      obtain ⟨hi, rfl⟩ := List.getElem?_eq_some_iff.mp hy
      exact List.drop_eq_getElem_cons hi
    have hw := hp.ok.drop i
    have hyP := hp.ok.mem (List.mem_of_getElem? hy)
    have y2 := PN_lt _ hyP
    have hpos := mOf_pos hw
    have hbd : mOf (pw.drop i) < 2 ^ 2000 := Nat.lt_of_le_of_lt (Nat.le_of_dvd (by omega) (mOf_drop_dvd i)) hp.bd
    refine ⟨_, rfl, _, rfl, _, rfl, mOf (pw.drop i), y.1, rfl, hpos, y2.1, y2.2, fun k k1 k2 => ?_⟩
    rw [hd] at k1 k2 hw
    obtain rfl := part_first hw k1 k2
    have e2 : mOf (pw.drop i) = y.1 ^ y.2 * mOf (pw.drop (i + 1)) := by rw [hd]; rfl
    have p0 : 0 < y.1 ^ y.2 := Nat.pow_pos (by omega)
    have lt : y.1 ^ y.2 < 2 ^ 2000 := Nat.lt_of_le_of_lt (Nat.le_of_dvd hpos (by rw [e2]; exact Nat.dvd_mul_right _ _)) hbd
    refine ⟨_, _, rfl, rfl, Bd.divOk (b := 2000) (by omega) (by unfold Bd; omega) (by decide) _, ?_⟩
    refine ⟨_, rfl, _, rfl, _, _, rfl, rfl, .inr ⟨by omega, by omega⟩, some (.int (y.1 : Int)), ?_, rfl⟩
    have e3 : ((mOf (pw.drop i) : Nat) : Int) / ((y.1 ^ y.2 : Nat) : Int) = ((mOf (pw.drop (i + 1)) : Nat) : Int) := by
      rw [e2, ← Int.natCast_ediv, Nat.mul_div_cancel_left _ p0]
    have e4 : ((prodP (pw.take i) : Nat) : Int) * (y.1 : Int) = ((prodP (pw.take (i + 1)) : Nat) : Int) := by
      rw [List.take_add_one, hy]
      show _ = ((prodP (pw.take i ++ [y]) : Nat) : Int)
      rw [prodP_append, Int.natCast_mul]
    rw [← e3, ← e4]
    rfl
  · rintro σ H' ⟨z, rfl, rfl⟩
    have e1 : pw.drop ((intsN (pw.map (·.1))).map V.int).length = [] := by simp
    have e2 : pw.take ((intsN (pw.map (·.1))).map V.int).length = pw := by simp
    rw [e1, e2]
    have few : ((prodP pw : Nat) : Int) ≤ 1000 := by have := hp.few; omega
    refine ⟨_, rfl, rfl, true, rfl, iteT ⟨_, rfl, _, _, rfl, rfl, ?_⟩⟩
    have z := q _ s1
    rw [← decide_eq_true few] at z
    exact z
theorem cl_is_period {X : Cx} {p pos : Pos} {e : Expr} {es : List Expr} {t : TA} (T : Txt K mg) (hr : Room 2 X.A) (ha : PA X (e :: es) t) (hg : Gl X "is_period" := by rfl)
    (he : starEach (e :: es) X.env = (false, eval e X.env) :: starEach es X.env := by rfl) (hpl : (backTo pos (starEach es X.env)).any (·.1) = false := by rfl) (hK : X.K = K := by rfl) (hmg : X.mg = mg := by rfl) :
    PE X (.Call (.Name "is_period" p) (e :: es) [] pos) (tCall sp_is_period [] E0 t) := by
  subst hK hmg
  exact pe_call (ok_is_period T) hr hg T.m_is_period T.F_is_period.kp T.b_is_period .nil pass0 ha (by decide) he hpl
/-! ### cells -/
theorem ty_tup {H : Hp} {a : Addr} {xs : List V} (h : SqT K H a xs) : TyX K H (.ref a) (.type "tuple") := by
  rcases h with (h | ⟨o, h⟩) | ⟨o, its, n, hk, hc, _⟩
  · exact .base (.tup h)
  · exact .fTuple h
  · exact .kTuple hk hc
def sp_is_cell (K : PySem.W.Frag) : Sp := fun vs H Q _ => ∃ (a : Addr) (xs : List Int), vs = [.ref a] ∧ SqT K H a (xs.map V.int) ∧ 1 ≤ xs.length ∧ xs.length ≤ 3 ∧ ∀ H', Same H H' → Q (.bl true) H'
theorem yes_ {σ : L2.St} {H : Hp} {R : Bool → Hp → Prop} (h : R true H) : tYes σ H R := h
theorem all_true : ∀ n, (List.replicate n true).all id = true
  | 0 => rfl
  | n + 1 => by rw [List.replicate_succ, List.all_cons, all_true n]; rfl
theorem ok_is_cell (T : Txt K mg) : FnOk P w K mg base CX0 2 T.a_is_cell T.d_is_cell ["thing"] (sp_is_cell K) := by
  refine T.F_is_cell.ok sc_is_cell (fun vs H Q E h => ?_) (fun cdv A outer s H vs Q E hr h => ?_)
  · obtain ⟨a, xs, rfl, _⟩ := h
    rfl
  obtain ⟨a, xs, rfl, hs, h1, h3, q⟩ := h
  refine ⟨_, pss_cons (ps_if (PW.pt (pw_or (pt_not (pt_val (pe_callB call_isi (by rfl) T.n_isinstance (by decide +kernel) (pa_cons (pv 0) (pa_cons (v_tuple T (by rfl)) pa_nil))))) (pw_or1 (pt_not (pt_chain op_le op_le pe_int (pe_callB call_len_seq (by rfl) T.n_len (by decide +kernel) (pa_cons (pv 0) pa_nil)) (g_MOST_BREADTH T (by rfl))))))) (pss_one (ps_ret pe_bl)) pss_nil)
    (pss_one (ps_ret (pe_callB (cr_all rfl) (by rfl) T.n_all (by decide +kernel) (pa_cons (pe_lc (own := [("number", 1)]) rfl sc_is_cell.nd (pi_tup (pv 0)) (blkOk_by (N := N_is_cell) (sc := defScope s_is_cell) (by decide +kernel)) (fun _ _ _ _ _ => (pg_name (i := 1) sc_is_cell.nd rfl (Or.inl rfl))) (fun _ _ _ _ _ => pts_nil) (fun _ _ _ _ _ => (cl_is_integer T (hr.mono (by decide)) (pa_cons (pv 1) pa_nil)))) pa_nil)))), ?_⟩
  refine ⟨_, rfl, _, _, _, _, true, rfl, ClsV.ty _, ty_tup hs, kit_ty (by decide +kernel), true, rfl, iteF ?_⟩
  have hl : (xs.map V.int).length = xs.length := List.length_map _
  refine ⟨_, rfl, a, _, rfl, .inr hs, _, _, rfl, rfl, true, ?_, iteT ?_⟩
  · exact congrArg V.bl (decide_eq_true (by rw [hl]; omega))
  refine ⟨_, _, rfl, rfl, true, ?_, iteF ?_⟩
  · exact congrArg V.bl (decide_eq_true (by rw [hl]; omega))
  refine ⟨_, rfl, _, rfl, ⟨_, hs⟩, fun D nD => lc_tup (xs := xs.map V.int) (Lc H D fun i => (List.replicate i true).map V.bl) (lc_start nD rfl) (fun _ _ _ h => h.1.sqt hs) (fun i x H1 hx h => ?_) (fun H1 h => ?_)⟩
  · rw [List.getElem?_map] at hx
    obtain ⟨c, hc, rfl⟩ := Option.map_eq_some_iff.mp hx
    have hi : i < xs.length := (List.getElem?_eq_some_iff.mp hc).1
    refine ⟨rfl, yes_ (iteT ?_)⟩
    exact ⟨_, rfl, _, rfl, lc_leaf nD h.1 h.2 (by simp; omega) (by simp [List.replicate_succ'])⟩
  · refine ⟨D, _, rfl, SqL.of h.2, ?_⟩
    rw [all_true]
    exact q H1 h.1
theorem cl_is_cell {X : Cx} {p pos : Pos} {e : Expr} {es : List Expr} {t : TA} (T : Txt K mg) (hr : Room 2 X.A) (ha : PA X (e :: es) t) (hg : Gl X "is_cell" := by rfl)
    (he : starEach (e :: es) X.env = (false, eval e X.env) :: starEach es X.env := by rfl) (hpl : (backTo pos (starEach es X.env)).any (·.1) = false := by rfl) (hK : X.K = K := by rfl) (hmg : X.mg = mg := by rfl) :
    PE X (.Call (.Name "is_cell" p) (e :: es) [] pos) (tCall (sp_is_cell K) [] E0 t) := by
  subst hK hmg
  exact pe_call (ok_is_cell T) hr hg T.m_is_cell T.F_is_cell.kp T.b_is_cell .nil pass0 ha (by decide) he hpl
end
end KL
namespace KL
open PySem PySem.Spec PyProof.Rows L2 RZ StX SrtO Kw KM
/-! ### stripes -/
structure SOk (pw : List (Nat × Nat)) (cs : List Int) (r : Int) : Prop where
  per : Per pw
  l1 : 1 ≤ cs.length
  l3 : cs.length ≤ 3
  c0 : ∀ c ∈ cs, 0 ≤ c ∧ c < (mOf pw : Nat)
  r0 : 0 ≤ r ∧ r < (mOf pw : Nat)
  cop : gcdL (mOf pw : Nat) cs = 1
/-- the tuple (m, c, r) at a -/
structure SAt (K : PySem.W.Frag) (H : Hp) (a : Addr) (m : Nat) (cs : List Int) (r : Int) : Prop where
  at_ : ∃ c, SqT K H a [.int m, .ref c, .int r] ∧ SqT K H c (cs.map V.int)
theorem SAt.mono {K : PySem.W.Frag} {H H' : Hp} {a : Addr} {m : Nat} {cs : List Int} {r : Int} (h : SAt K H a m cs r) (e : Same H H') : SAt K H' a m cs r := by
  obtain ⟨c, h1, h2⟩ := h.at_
  exact ⟨c, e.sqt h1, e.sqt h2⟩
def sp_is_stripe (K : PySem.W.Frag) : Sp := fun vs H Q _ => ∃ (a : Addr) (pw : List (Nat × Nat)) (cs : List Int) (r : Int), vs = [.ref a] ∧ SAt K H a (mOf pw) cs r ∧ SOk pw cs r ∧ ∀ H', Same H H' → Q (.bl true) H'
section
variable {P : Program} {w : World} {K : PySem.W.Frag} {mg : Str → Option Value} {base : Heap}
theorem ok_is_stripe (T : Txt K mg) : FnOk P w K mg base CX0 3 T.a_is_stripe T.d_is_stripe ["thing"] (sp_is_stripe K) := by
  refine T.F_is_stripe.ok sc_is_stripe (fun vs H Q E h => ?_) (fun cdv A outer s H vs Q E hr h => ?_)
  · obtain ⟨a, pw, cs, r, rfl, _⟩ := h
    rfl
  obtain ⟨a, pw, cs, r, rfl, hA, hO, q⟩ := h
  obtain ⟨c, ha, hc⟩ := hA.at_
  refine ⟨_, pss_cons (ps_if (PW.pt (pw_or (pt_not (pt_val (pe_callB call_isi (by rfl) T.n_isinstance (by decide +kernel) (pa_cons (pv 0) (pa_cons (v_tuple T (by rfl)) pa_nil))))) (pw_or1 (pt_cmpR op_ne (pe_callB call_len_seq (by rfl) T.n_len (by decide +kernel) (pa_cons (pv 0) pa_nil)) pe_int (nomark _))))) (pss_one (ps_ret pe_bl)) pss_nil)
    (pss_cons (ps_asg (pv 0) (pg_tup (by rfl) (pgs_cons (pg_name (i := 1) sc_is_stripe.nd rfl (Or.inr rfl)) (pgs_cons (pg_name (i := 2) sc_is_stripe.nd rfl (Or.inl rfl)) (pgs_cons (pg_name (i := 3) sc_is_stripe.nd rfl (Or.inl rfl)) pgs_nil)))))
    (pss_cons (ps_if (PW.pt (pw_or (pt_not (pt_val (cl_is_period T (hr.mono (by decide)) (pa_cons (pv 1) pa_nil)))) (pw_or (pt_not (pt_val (cl_is_cell T (hr.mono (by decide)) (pa_cons (pv 2) pa_nil)))) (pw_or1 (pt_not (pt_val (cl_is_integer T (hr.mono (by decide)) (pa_cons (pv 3) pa_nil)))))))) (pss_one (ps_ret pe_bl)) pss_nil)
    (pss_cons (ps_if (pt_not (pt_val (pe_callB (cr_all rfl) (by rfl) T.n_all (by decide +kernel) (pa_cons (pe_lc (own := [("number", 4)]) rfl sc_is_stripe.nd (pi_tup (pe_tup (pa_star (pv 2) (pa_cons (pv 3) pa_nil)))) (blkOk_by (N := N_is_stripe) (sc := defScope s_is_stripe) (by decide +kernel)) (fun _ _ _ _ _ => (pg_name (i := 4) sc_is_stripe.nd rfl (Or.inl rfl))) (fun _ _ _ _ _ => pts_nil) (fun _ _ _ _ _ => (pe_chain op_le op_lt pe_int (pv 4) (pv 1)))) pa_nil)))) (pss_one (ps_ret pe_bl)) pss_nil)
    (pss_one (ps_ret (pe_cmpR op_eq (cl_common_divisor T (hr.mono (by decide)) (pa_cons (pv 1) (pa_cons (pv 2) pa_nil))) pe_int (nomark _))))))), ?_⟩
  refine ⟨_, rfl, _, _, _, _, true, rfl, ClsV.ty _, ty_tup ha, kit_ty (by decide +kernel), true, rfl, iteF ?_⟩
  refine ⟨_, rfl, a, _, rfl, .inr ha, rfl, _, rfl, iteF ?_⟩
  refine ⟨_, rfl, a, _, rfl, ha, rfl, _, _, rfl, _, _, rfl, _, _, rfl, rfl, ?_⟩
  refine ⟨_, rfl, pw, hO.per, rfl, fun H1 s1 => ⟨true, rfl, iteF ?_⟩⟩
  refine ⟨_, rfl, c, cs, rfl, s1.sqt hc, hO.l1, hO.l3, fun H2 s2 => ⟨true, rfl, iteF ?_⟩⟩
  refine ⟨_, rfl, r, rfl, true, rfl, iteF ?_⟩
  have s12 := s1.trans s2
  have n4 : (cs.map V.int ++ [V.int r]).length = cs.length + 1 := by simp
  have l3 := hO.l3
  refine ⟨_, rfl, c, _, rfl, .inl (s12.sqt hc), _, rfl, ?_, fun t nt => ?_⟩
  · show (cs.map V.int ++ [V.int r]).length ≤ sizeLine
    rw [n4]
    exact Nat.le_trans (show cs.length + 1 ≤ 4 by omega) (by decide)
  have s3 := same_new nt (.tup (cs.map V.int ++ [V.int r]))
  have ht : SqT K (upd H2 t (.tup (cs.map V.int ++ [V.int r]))) t ((cs ++ [r]).map V.int) := by
    rw [List.map_append]
    exact SqT.of upd_same
  refine ⟨t, rfl, ⟨_, ht⟩, fun D nD => lc_tup (xs := (cs ++ [r]).map V.int) (Lc _ D fun i => (List.replicate i true).map V.bl) (lc_start nD rfl) (fun _ _ _ h => h.1.sqt ht) (fun i x H3 hx h => ?_) (fun H3 h => ?_)⟩
  · rw [List.getElem?_map] at hx
    obtain ⟨z, hz, rfl⟩ := Option.map_eq_some_iff.mp hx
    have hi := (List.getElem?_eq_some_iff.mp hz).1
    rw [List.length_append] at hi
    have hb : 0 ≤ z ∧ z < (mOf pw : Nat) := by
      rcases List.mem_append.mp (List.mem_of_getElem? hz) with k | k
      · exact hO.c0 z k
      · rw [List.mem_singleton.mp k]
        exact hO.r0
    refine ⟨rfl, yes_ (iteT ?_)⟩
    refine ⟨_, rfl, _, _, rfl, rfl, true, congrArg V.bl (decide_eq_true hb.1), iteT ?_⟩
    refine ⟨_, rfl, _, _, rfl, rfl, ?_⟩
    refine lc_leaf nD h.1 h.2 (by simp only [List.length_map, List.length_replicate]; simp at hi; omega) ?_
    show (List.replicate (i + 1) true).map V.bl = (List.replicate i true).map V.bl ++ [V.bl (decide (z < ((mOf pw : Nat) : Int)))]
    rw [decide_eq_true hb.2]
    simp [List.replicate_succ']
  · refine ⟨D, _, rfl, SqL.of h.2, ?_⟩
    rw [all_true]
    refine ⟨true, rfl, iteF ?_⟩
    have s4 := (s12.trans s3).trans h.1
    refine ⟨_, rfl, _, rfl, _, c, cs, rfl, s4.sqt hc, ?_⟩
    refine ⟨rfl, ?_⟩
    have z := q H3 s4
    rw [← decide_eq_true (congrArg V.int hO.cop)] at z
    exact z
theorem cl_is_stripe {X : Cx} {p pos : Pos} {e : Expr} {es : List Expr} {t : TA} (T : Txt K mg) (hr : Room 3 X.A) (ha : PA X (e :: es) t) (hg : Gl X "is_stripe" := by rfl)
    (he : starEach (e :: es) X.env = (false, eval e X.env) :: starEach es X.env := by rfl) (hpl : (backTo pos (starEach es X.env)).any (·.1) = false := by rfl) (hK : X.K = K := by rfl) (hmg : X.mg = mg := by rfl) :
    PE X (.Call (.Name "is_stripe" p) (e :: es) [] pos) (tCall (sp_is_stripe K) [] E0 t) := by
  subst hK hmg
  exact pe_call (ok_is_stripe T) hr hg T.m_is_stripe T.F_is_stripe.kp T.b_is_stripe .nil pass0 ha (by decide) he hpl
def sp_check_stripe (K : PySem.W.Frag) : Sp := fun vs H Q _ => ∃ (a : Addr) (pw : List (Nat × Nat)) (cs : List Int) (r : Int), vs = [.ref a] ∧ SAt K H a (mOf pw) cs r ∧ SOk pw cs r ∧ ∀ H', Same H H' → Q .non H'
theorem ok_check_stripe (T : Txt K mg) : FnOk P w K mg base CX0 4 T.a_check_stripe T.d_check_stripe ["thing"] (sp_check_stripe K) := by
  refine T.F_check_stripe.ok sc_check_stripe (fun vs H Q E h => ?_) (fun cdv A outer s H vs Q E hr h => ?_)
  · obtain ⟨a, pw, cs, r, rfl, _⟩ := h
    rfl
  obtain ⟨a, pw, cs, r, rfl, hA, hO, q⟩ := h
  refine ⟨_, pss_one (ps_if (pt_not (pt_val (cl_is_stripe T (hr.mono (by decide)) (pa_cons (pv 0) pa_nil)))) (pss_one ps_never) pss_nil), ?_⟩
  exact ⟨_, rfl, a, pw, cs, r, rfl, hA, hO, fun H1 s1 => ⟨true, rfl, iteF (q H1 s1)⟩⟩
theorem cl_check_stripe {X : Cx} {p pos : Pos} {e : Expr} {es : List Expr} {t : TA} (T : Txt K mg) (hr : Room 4 X.A) (ha : PA X (e :: es) t) (hg : Gl X "check_stripe" := by rfl)
    (he : starEach (e :: es) X.env = (false, eval e X.env) :: starEach es X.env := by rfl) (hpl : (backTo pos (starEach es X.env)).any (·.1) = false := by rfl) (hK : X.K = K := by rfl) (hmg : X.mg = mg := by rfl) :
    PE X (.Call (.Name "check_stripe" p) (e :: es) [] pos) (tCall (sp_check_stripe K) [] E0 t) := by
  subst hK hmg
  exact pe_call (ok_check_stripe T) hr hg T.m_check_stripe T.F_check_stripe.kp T.b_check_stripe .nil pass0 ha (by decide) he hpl
/-! ### products across -/
def dotI (cs xs : List Int) : Int := (List.zipWith (fun a b => a * b) cs xs).sum
--#fn dot
def sp_dot (K : PySem.W.Frag) : Sp := fun vs H Q _ => ∃ (a b : Addr) (cs xs : List Int), vs = [.ref a, .ref b] ∧ SqT K H a (cs.map V.int) ∧ SqT K H b (xs.map V.int) ∧ cs.length = xs.length ∧ cs.length ≤ 3 ∧
  (∀ c ∈ cs, Bd 2000 c) ∧ (∀ x ∈ xs, Bd 2000 x) ∧ ∀ H', Same H H' → Q (.int (dotI cs xs)) H'
theorem ok_dot (T : Txt K mg) : FnOk P w K mg base CX0 1 T.a_dot T.d_dot ["c", "x"] (sp_dot K) := by
  refine T.F_dot.ok sc_dot (fun vs H Q E h => ?_) (fun cdv A outer s H vs Q E hr h => ?_)
  · obtain ⟨a, b, cs, xs, rfl, _⟩ := h
    rfl
  obtain ⟨a, b, cs, xs, rfl, ha, hb, hl, h3, hcb, hxb, q⟩ := h
  refine ⟨_, pss_one (ps_ret (pe_callB (cr_sum rfl) (by rfl) T.n_sum (by decide +kernel) (pa_cons (pe_lc (own := [("number", 2), ("along", 3)]) (g := gTup K 2 (gCons (gName 2) (gCons (gName 3) gNil))) rfl sc_dot.nd (pi_zipA (by rfl) T.n_zip (pa_cons (pv 0) (pa_cons (pv 1) pa_nil))) (blkOk_by (N := N_dot) (sc := defScope s_dot) (by decide +kernel)) (fun _ _ _ _ _ => (pg_tup (by rfl) (pgs_cons (pg_name (i := 2) sc_dot.nd rfl (Or.inl rfl)) (pgs_cons (pg_name (i := 3) sc_dot.nd rfl (Or.inl rfl)) pgs_nil)))) (fun _ _ _ _ _ => pts_nil) (fun _ _ _ _ _ => (pe_op op_mulW (pv 2) (pv 3)))) pa_nil))), ?_⟩
  have hl' : (cs.map V.int).length = (xs.map V.int).length := by simp [hl]
  refine ⟨_, rfl, _, rfl, a, b, _, _, rfl, .inr ⟨ha, hb, fun D nD => lc_zipT hl' (Lc H D fun i => ((List.zipWith (fun a b => a * b) cs xs).take i).map V.int) (lc_start nD rfl) (fun _ _ h => ⟨h.1.sqt ha, h.1.sqt hb⟩) (fun i x y t H1 hx hy h nt => ?_) (fun H1 h => ?_)⟩⟩
  · rw [List.getElem?_map] at hx hy
    obtain ⟨c, hc, rfl⟩ := Option.map_eq_some_iff.mp hx
    obtain ⟨z, hz, rfl⟩ := Option.map_eq_some_iff.mp hy
    have sT := same_new nt (.tup [V.int c, V.int z])
    refine ⟨t, _, rfl, SqT.of upd_same, rfl, _, _, rfl, _, _, rfl, rfl, rfl, yes_ (iteT ?_)⟩
    refine ⟨_, rfl, _, rfl, _, _, rfl, rfl, (hcb c (List.mem_of_getElem? hc)).mulOk (hxb z (List.mem_of_getElem? hz)), ?_⟩
    refine lc_leaf nD (h.1.trans sT) (sT _ _ h.2) ?_ ?_
    · simp only [List.length_map, List.length_take, List.length_zipWith]
      omega
    · have e : (List.zipWith (fun a b => a * b) cs xs)[i]? = some (c * z) := by
        rw [List.getElem?_zipWith, hc, hz]
      rw [List.take_add_one, e, List.map_append]
      rfl
  · refine ⟨D, List.zipWith (fun a b => a * b) cs xs, rfl, ?_, q H1 h.1⟩
    have e : H1 D = some (.lst (((List.zipWith (fun a b => a * b) cs xs).take (cs.map V.int).length).map V.int)) := h.2
    rw [List.take_of_length_le (by simp; omega)] at e
    exact SqL.of e
theorem cl_dot {X : Cx} {p pos : Pos} {e : Expr} {es : List Expr} {t : TA} (T : Txt K mg) (hr : Room 1 X.A) (ha : PA X (e :: es) t) (hg : Gl X "dot" := by rfl)
    (he : starEach (e :: es) X.env = (false, eval e X.env) :: starEach es X.env := by rfl) (hpl : (backTo pos (starEach es X.env)).any (·.1) = false := by rfl) (hK : X.K = K := by rfl) (hmg : X.mg = mg := by rfl) :
    PE X (.Call (.Name "dot" p) (e :: es) [] pos) (tCall (sp_dot K) [] E0 t) := by
  subst hK hmg
  exact pe_call (ok_dot T) hr hg T.m_dot T.F_dot.kp T.b_dot .nil pass0 ha (by decide) he hpl
--#fn lies_on
def sp_lies_on (K : PySem.W.Frag) : Sp := fun vs H Q _ => ∃ (a b : Addr) (m : Nat) (cs xs : List Int) (r : Int), vs = [.ref a, .ref b] ∧ SAt K H a m cs r ∧ SqT K H b (xs.map V.int) ∧ cs.length = xs.length ∧ cs.length ≤ 3 ∧ 1 ≤ m ∧
  (∀ c ∈ cs, Bd 2000 c) ∧ (∀ x ∈ xs, Bd 2000 x) ∧ ∀ H', Same H H' → Q (.bl (decide ((dotI cs xs - r) % m = 0))) H'
theorem ok_lies_on (T : Txt K mg) : FnOk P w K mg base CX0 2 T.a_lies_on T.d_lies_on ["stripe", "cell"] (sp_lies_on K) := by
  refine T.F_lies_on.ok sc_lies_on (fun vs H Q E h => ?_) (fun cdv A outer s H vs Q E hr h => ?_)
  · obtain ⟨a, b, m, cs, xs, r, rfl, _⟩ := h
    rfl
  obtain ⟨a, b, m, cs, xs, r, rfl, hA, hb, hl, h3, hm, hcb, hxb, q⟩ := h
  obtain ⟨c, ha, hc⟩ := hA.at_
  refine ⟨_, pss_cons (ps_asg (pv 0) (pg_tup (by rfl) (pgs_cons (pg_name (i := 2) sc_lies_on.nd rfl (Or.inl rfl)) (pgs_cons (pg_name (i := 3) sc_lies_on.nd rfl (Or.inl rfl)) (pgs_cons (pg_name (i := 4) sc_lies_on.nd rfl (Or.inl rfl)) pgs_nil)))))
    (pss_one (ps_ret (pe_cmpR op_eq (pe_op op_mod (pe_op op_sub (cl_dot T (hr.mono (by decide)) (pa_cons (pv 3) (pa_cons (pv 1) pa_nil))) (pv 4)) (pv 2)) pe_int (nomark _)))), ?_⟩
  refine ⟨_, rfl, a, _, rfl, ha, rfl, _, _, rfl, _, _, rfl, _, _, rfl, rfl, ?_⟩
  refine ⟨_, rfl, _, rfl, c, b, cs, xs, rfl, hc, hb, hl, h3, hcb, hxb, fun H1 s1 => ?_⟩
  refine ⟨_, rfl, _, _, rfl, rfl, _, rfl, _, _, rfl, rfl, (by omega), rfl, ?_⟩
  have z := q H1 s1
  have e : decide ((dotI cs xs - r) % (m : Int) = 0) = decide (V.int ((dotI cs xs - r) % (m : Int)) = V.int 0) := decide_eq_decide.mpr ⟨fun h => congrArg V.int h, V.int.inj⟩
  rw [e] at z
  exact z
theorem cl_lies_on {X : Cx} {p pos : Pos} {e : Expr} {es : List Expr} {t : TA} (T : Txt K mg) (hr : Room 2 X.A) (ha : PA X (e :: es) t) (hg : Gl X "lies_on" := by rfl)
    (he : starEach (e :: es) X.env = (false, eval e X.env) :: starEach es X.env := by rfl) (hpl : (backTo pos (starEach es X.env)).any (·.1) = false := by rfl) (hK : X.K = K := by rfl) (hmg : X.mg = mg := by rfl) :
    PE X (.Call (.Name "lies_on" p) (e :: es) [] pos) (tCall (sp_lies_on K) [] E0 t) := by
  subst hK hmg
  exact pe_call (ok_lies_on T) hr hg T.m_lies_on T.F_lies_on.kp T.b_lies_on .nil pass0 ha (by decide) he hpl
--#fn is_on
/-! ### is_on -/
def sp_is_on (K : PySem.W.Frag) : Sp := fun vs H Q _ => ∃ (a b : Addr) (pw : List (Nat × Nat)) (cs xs : List Int) (r : Int), vs = [.ref a, .ref b] ∧ SAt K H a (mOf pw) cs r ∧ SOk pw cs r ∧ SqT K H b (xs.map V.int) ∧ cs.length = xs.length ∧
  (∀ x ∈ xs, Bd 2000 x) ∧ ∀ H', Same H H' → Q (.bl (decide ((dotI cs xs - r) % (mOf pw : Nat) = 0))) H'
--#all
theorem SOk.bd {pw : List (Nat × Nat)} {cs : List Int} {r : Int} (h : SOk pw cs r) : ∀ c ∈ cs, Bd 2000 c := fun c hc => by
  have := h.c0 c hc
  have := h.per.bd
  unfold Bd
  omega
--#fn is_on
theorem ok_is_on (T : Txt K mg) : FnOk P w K mg base CX0 5 T.a_is_on T.d_is_on ["stripe", "cell"] (sp_is_on K) := by
  refine T.F_is_on.ok sc_is_on (fun vs H Q E h => ?_) (fun cdv A outer s H vs Q E hr h => ?_)
  · obtain ⟨a, b, pw, cs, xs, r, rfl, _⟩ := h
    rfl
  obtain ⟨a, b, pw, cs, xs, r, rfl, hA, hO, hb, hl, hxb, q⟩ := h
  obtain ⟨c, ha, hc⟩ := hA.at_
  refine ⟨_, pss_cons (ps_expr (cl_check_stripe T (hr.mono (by decide)) (pa_cons (pv 0) pa_nil)))
    (pss_cons (ps_if (PW.pt (pw_or (pt_not (pt_val (cl_is_cell T (hr.mono (by decide)) (pa_cons (pv 1) pa_nil)))) (pw_or1 (pt_cmpR op_ne (pe_callB call_len_seq (by rfl) T.n_len (by decide +kernel) (pa_cons (pv 1) pa_nil)) (pe_callB call_len_seq (by rfl) T.n_len (by decide +kernel) (pa_cons (pe_ix ix_tup (pv 0) pe_int (fun _ _ => rfl)) pa_nil)) (nomark _))))) (pss_one ps_never) pss_nil)
    (pss_one (ps_ret (cl_lies_on T (hr.mono (by decide)) (pa_cons (pv 0) (pa_cons (pv 1) pa_nil)))))), ?_⟩
  have l1 := hO.l1
  have l3 := hO.l3
  refine ⟨_, rfl, a, pw, cs, r, rfl, hA, hO, fun H1 s1 => ?_⟩
  refine ⟨_, rfl, b, xs, rfl, s1.sqt hb, by omega, by omega, fun H2 s2 => ⟨true, rfl, iteF ?_⟩⟩
  have s12 := s1.trans s2
  refine ⟨_, rfl, b, _, rfl, .inr (s12.sqt hb), _, rfl, a, _, 1, .ref c, rfl, rfl, s12.sqt ha, rfl, c, _, rfl, .inr (s12.sqt hc), rfl, false, ?_, iteF ?_⟩
  · rw [List.length_map, List.length_map, hl]
    simp
  refine ⟨_, rfl, _, rfl, a, b, mOf pw, cs, xs, r, rfl, hA.mono s12, s12.sqt hb, hl, l3, mOf_pos hO.per.ok, hO.bd, hxb, fun H3 s3 => q H3 (s12.trans s3)⟩
theorem cl_is_on {X : Cx} {p pos : Pos} {e : Expr} {es : List Expr} {t : TA} (T : Txt K mg) (hr : Room 5 X.A) (ha : PA X (e :: es) t) (hg : Gl X "is_on" := by rfl)
    (he : starEach (e :: es) X.env = (false, eval e X.env) :: starEach es X.env := by rfl) (hpl : (backTo pos (starEach es X.env)).any (·.1) = false := by rfl) (hK : X.K = K := by rfl) (hmg : X.mg = mg := by rfl) :
    PE X (.Call (.Name "is_on" p) (e :: es) [] pos) (tCall (sp_is_on K) [] E0 t) := by
  subst hK hmg
  exact pe_call (ok_is_on T) hr hg T.m_is_on T.F_is_on.kp T.b_is_on .nil pass0 ha (by decide) he hpl
end
--#all
end KL
namespace KL
open PySem PySem.Spec PyProof.Rows L2 RZ StX SrtO Kw KM
/-! ### the deck -/
abbrev kC : Key := Sum.inr ("cells" : Str)
abbrev kM : Key := Sum.inr ("mixed" : Str)
abbrev kN : Key := Sum.inr ("draws" : Str)
abbrev deckV (l : Addr) (m n : Int) : List (Key × V) := [(kC, .ref l), (kM, .int m), (kN, .int n)]
theorem get_C {l : Addr} {m n : Int} : valV (deckV l m n) kC = some (.ref l) := rfl
theorem get_M {l : Addr} {m n : Int} : valV (deckV l m n) kM = some (.int m) := rfl
theorem get_N {l : Addr} {m n : Int} : valV (deckV l m n) kN = some (.int n) := rfl
theorem put_N {l : Addr} {m n k : Int} : putK (deckV l m n) kN (.int k) = deckV l m k := rfl
structure DeckAt (H : Hp) (d l : Addr) : Prop where
  ex : ∃ (m n : Int) (cs : List Int), H d = some (.dK (deckV l m n)) ∧ H l = some (.lst (cs.map V.int)) ∧ cs.length ≤ 63
/-- all but the deck stays, and the deck is one again -/
structure Stp (d l : Addr) (H H' : Hp) : Prop where
  pre : DeckAt H d l
  post : DeckAt H' d l
  kp : ∀ b o, b ≠ d → b ≠ l → H b = some o → H' b = some o
theorem Stp.trans {d l : Addr} {H H1 H2 : Hp} (a : Stp d l H H1) (b : Stp d l H1 H2) : Stp d l H H2 := ⟨a.pre, b.post, fun c o h1 h2 e => b.kp c o h1 h2 (a.kp c o h1 h2 e)⟩
theorem DeckAt.ne {H : Hp} {d l : Addr} (h : DeckAt H d l) : d ≠ l := by
  obtain ⟨m, n, cs, h1, h2, _⟩ := h.ex
  exact ne_of h1 h2 (by intro z; cases z)
theorem DeckAt.same {H H' : Hp} {d l : Addr} (h : DeckAt H d l) (s : Same H H') : DeckAt H' d l := by
  obtain ⟨m, n, cs, h1, h2, h3⟩ := h.ex
  exact ⟨m, n, cs, s _ _ h1, s _ _ h2, h3⟩
theorem DeckAt.stp {H H' : Hp} {d l : Addr} (h : DeckAt H d l) (s : Same H H') : Stp d l H H' := ⟨h, h.same s, fun b o _ _ e => s b o e⟩
theorem DeckAt.refl {H : Hp} {d l : Addr} (h : DeckAt H d l) : Stp d l H H := h.stp (Same.refl H)
theorem Stp.rd_tup {d l : Addr} {H H' : Hp} (s : Stp d l H H') {a : Addr} {xs : List V} (h : Rd H a (.tup xs)) : Rd H' a (.tup xs) := by
  obtain ⟨m, n, cs, h1, h2, _⟩ := s.pre.ex
  rcases h with h | ⟨o, h⟩
  · exact .inl (s.kp _ _ (ne_of h h1 (by intro z; cases z)) (ne_of h h2 (by intro z; cases z)) h)
  · exact .inr ⟨o, s.kp _ _ (ne_of h h1 (by intro z; cases z)) (ne_of h h2 (by intro z; cases z)) h⟩
theorem Stp.sqt {K : PySem.W.Frag} {d l : Addr} {H H' : Hp} (s : Stp d l H H') {a : Addr} {xs : List V} (h : SqT K H a xs) : SqT K H' a xs := by
  rcases h with h | h
  · exact .inl (s.rd_tup h)
  · exact .inr h
theorem Stp.sqlO {K : PySem.W.Frag} {d l : Addr} {H H' : Hp} (s : Stp d l H H') {a : Addr} {xs : List V} (n1 : a ≠ l) (h : SqL K H a xs) : SqL K H' a xs := by
  obtain ⟨m, n, cs, h1, h2, _⟩ := s.pre.ex
  rcases h with (h | ⟨o, h⟩) | h
  · exact .inl (.inl (s.kp _ _ (ne_of h h1 (by intro z; cases z)) n1 h))
  · exact .inl (.inr ⟨o, s.kp _ _ (ne_of h h1 (by intro z; cases z)) n1 h⟩)
  · exact .inr h
theorem Stp.lst {d l : Addr} {H H' : Hp} (s : Stp d l H H') {a : Addr} {xs : List V} (n1 : a ≠ l) (h : H a = some (.lst xs)) : H' a = some (.lst xs) := by
  obtain ⟨m, n, cs, h1, h2, _⟩ := s.pre.ex
  exact s.kp _ _ (ne_of h h1 (by intro z; cases z)) n1 h
theorem SAt.stp {K : PySem.W.Frag} {d l : Addr} {H H' : Hp} (s : Stp d l H H') {a : Addr} {m : Nat} {cs : List Int} {r : Int} (h : SAt K H a m cs r) : SAt K H' a m cs r := by
  obtain ⟨c, h1, h2⟩ := h.at_
  exact ⟨c, s.sqt h1, s.sqt h2⟩
/-- what is new is not the deck's list -/
theorem DeckAt.off {H : Hp} {d l a : Addr} (h : DeckAt H d l) (n : H a = none) : a ≠ l := by
  obtain ⟨m, k, cs, h1, h2, _⟩ := h.ex
  exact (ne_of_none h2 n).symm
theorem DeckAt.offd {H : Hp} {d l a : Addr} (h : DeckAt H d l) (n : H a = none) : a ≠ d := by
  obtain ⟨m, k, cs, h1, h2, _⟩ := h.ex
  exact (ne_of_none h1 n).symm
theorem dk_C {H : Hp} {d l : Addr} {m n : Int} (e : H d = some (.dK (deckV l m n))) : DGet H d (.str "cells") (some (.ref l)) := get_C (l := l) (m := m) (n := n) ▸ DGet.k (k := kC) e
theorem dk_M {H : Hp} {d l : Addr} {m n : Int} (e : H d = some (.dK (deckV l m n))) : DGet H d (.str "mixed") (some (.int m)) := get_M (l := l) (m := m) (n := n) ▸ DGet.k (k := kM) e
theorem dk_N {H : Hp} {d l : Addr} {m n : Int} (e : H d = some (.dK (deckV l m n))) : DGet H d (.str "draws") (some (.int n)) := get_N (l := l) (m := m) (n := n) ▸ DGet.k (k := kN) e
theorem dp_N {H : Hp} {d l : Addr} {m n k : Int} (e : H d = some (.dK (deckV l m n))) : DPut H d (.str "draws") (.int k) (upd H d (.dK (deckV l m k))) := put_N (l := l) (m := m) (n := n) (k := k) ▸ DPut.k (k := kN) e (by show 3 < sizeLine; decide)
theorem cut_all {xs : List V} {n : Nat} (h : xs.length ≤ n) : cutV xs none (some (n : Int)) = xs := by
  unfold cutV
  rw [HT.sIx_none, show HT.sIx xs.length xs.length (some (n : Int)) = min n xs.length from HT.sIx_nat xs.length xs.length n]
  rw [List.drop_zero, Nat.min_eq_right h, Nat.sub_zero, List.take_length]
section
variable {P : Program} {w : World} {K : PySem.W.Frag} {mg : Str → Option Value} {base : Heap}
def sp__law_deck (K : PySem.W.Frag) : Sp := fun vs H Q _ => ∃ (a : Addr) (ns : List Int), vs = [.ref a] ∧ SqL K H a (ns.map V.int) ∧ ns.length ≤ 63 ∧ ∀ d l H', Same H H' → H d = none → H l = none → DeckAt H' d l → Q (.ref d) H'
theorem ok__law_deck (T : Txt K mg) : FnOk P w K mg base CX0 1 T.a__law_deck T.d__law_deck ["_law_script"] (sp__law_deck K) := by
  refine T.F__law_deck.ok sc__law_deck (fun vs H Q E h => ?_) (fun cdv A outer s H vs Q E hr h => ?_)
  · obtain ⟨a, ns, rfl, _⟩ := h
    rfl
  obtain ⟨a, ns, rfl, hs, h63, q⟩ := h
  refine ⟨_, pss_cons (ps_set (i := 1) sc__law_deck.nd rfl (Or.inl rfl) pe_int)
    (pss_cons (ps_for PassesOwn.never rfl (pi_list (pe_slice sl_list (pv 0) po_none (po_some pe_int))) (pg_name (i := 2) sc__law_deck.nd rfl (Or.inl rfl)) (pss_one (ps_set (i := 1) sc__law_deck.nd rfl (Or.inl rfl) (pe_op op_mod (pe_callTy call_int1 (by rfl) T.n_int (by decide +kernel) (pa_cons (pe_op op_add (pe_op op_add (pe_op op_mul (pv 1) pe_int) (pe_op op_mod (pe_callTy call_int1 (by rfl) T.n_int (by decide +kernel) (pa_cons (pv 2) pa_nil)) pe_int)) pe_int) pa_nil)) pe_int))))
    (pss_one (ps_ret (pe_disp (pps_cons pe_str (pe_revL (pe_callTy call_list_of (by rfl) T.n_list (by decide +kernel) (pa_cons (pe_slice sl_list (pv 0) po_none (po_some pe_int)) pa_nil))) (pps_cons pe_str (pv 1) (pps_cons pe_str pe_int pps_nil))) (by rfl) (by rfl) (by simp) (by decide))))), ?_⟩
  have hl : (ns.map V.int).length ≤ 63 := by simpa using h63
  have hcut : cutV (ns.map V.int) none (some (63 : Int)) = ns.map V.int := cut_all (n := 63) hl
  refine ⟨_, rfl, 63, rfl, a, _, rfl, hs, fun c nc => ?_⟩
  have s1 := same_new nc (.lst (cutV (ns.map V.int) none (some 63)))
  have ec : (upd H c (.lst (cutV (ns.map V.int) none (some 63)))) c = some (.lst (ns.map V.int)) := by rw [upd_same, hcut]
  generalize hH1 : upd H c (.lst (cutV (ns.map V.int) none (some 63))) = H1 at s1 ec
  refine ⟨c, rfl, ⟨_, SqL.of ec⟩, for_list (xs := ns.map V.int) (fun i σ H' => ∃ (m : Int) (z : Option V), σ = [some (.ref a), some (.int m), z] ∧ H1 = H') ⟨_, none, rfl, rfl⟩ ?_ ?_ ?_⟩
  · rintro i σ H' _ ⟨m, z, rfl, rfl⟩
    exact SqL.of ec
  · rintro i x σ H' hx ⟨m, z, rfl, rfl⟩
    rw [List.getElem?_map] at hx
    obtain ⟨v, hv, rfl⟩ := Option.map_eq_some_iff.mp hx
    refine ⟨_, rfl, _, _, rfl, rfl, .inr (by decide), _, rfl, .inl ⟨_, rfl, _, _, rfl, rfl, (show (0 : Int) < 2147483629 by decide), _, _, rfl, rfl, _, _, rfl, rfl, .inl ⟨_, rfl, _, _, rfl, rfl, (show (0 : Int) < 2147483587 by decide), ?_⟩⟩⟩
    exact ⟨_, _, rfl, rfl⟩
  · rintro σ H' ⟨m, z, rfl, rfl⟩
    intro d nd
    refine ⟨_, rfl, 63, rfl, a, _, rfl, (same_new nd _).seq (s1.seq hs), fun e ne => ?_⟩
    have s2 := (s1.trans (same_new nd (.dK []))).trans (same_new ne (.lst (cutV (ns.map V.int) none (some 63))))
    refine ⟨e, _, rfl, .inl (SqL.of upd_same), fun f nf => ?_⟩
    have s3 := s2.trans (same_new nf (.lst (cutV (ns.map V.int) none (some 63))))
    refine ⟨f, _, rfl, SqL.of upd_same, fun l nl => ?_⟩
    have s4 := s3.trans (same_new nl (.lst (cutV (ns.map V.int) none (some 63)).reverse))
    refine ⟨_, rfl, ?_⟩
    have nd4 : d ≠ l := fun z => by
      subst z
      have q1 : (upd (upd (upd H1 d (.dK [])) e (.lst (cutV (ns.map V.int) none (some 63)))) f (.lst (cutV (ns.map V.int) none (some 63)))) d = some (.dK []) :=
        (same_new nf _) _ _ ((same_new ne _) _ _ upd_same)
      rw [q1] at nl
      cases nl
    have ed : (upd (upd (upd (upd H1 d (.dK [])) e (.lst (cutV (ns.map V.int) none (some 63)))) f (.lst (cutV (ns.map V.int) none (some 63)))) l (.lst (cutV (ns.map V.int) none (some 63)).reverse)) d = some (.dK []) :=
      (same_new nl _) _ _ ((same_new nf _) _ _ ((same_new ne _) _ _ upd_same))
    have nH : H d = none := s1.free nd
    refine ⟨ed, deckV l m 0, rfl, by show 3 ≤ 15; decide, ?_⟩
    refine q d l _ (same_upd2 s4 nH) nH (s3.free nl) ⟨m, 0, ns.reverse, ?_, ?_, by simpa using h63⟩
    · rw [upd_same]
      rfl
    · rw [upd_ne nd4.symm, upd_same, hcut, List.map_reverse]
theorem cl__law_deck {X : Cx} {p pos : Pos} {e : Expr} {es : List Expr} {t : TA} (T : Txt K mg) (hr : Room 1 X.A) (ha : PA X (e :: es) t) (hg : Gl X "_law_deck" := by rfl)
    (he : starEach (e :: es) X.env = (false, eval e X.env) :: starEach es X.env := by rfl) (hpl : (backTo pos (starEach es X.env)).any (·.1) = false := by rfl) (hK : X.K = K := by rfl) (hmg : X.mg = mg := by rfl) :
    PE X (.Call (.Name "_law_deck" p) (e :: es) [] pos) (tCall (sp__law_deck K) [] E0 t) := by
  subst hK hmg
  exact pe_call (ok__law_deck T) hr hg T.m__law_deck T.F__law_deck.kp T.b__law_deck .nil pass0 ha (by decide) he hpl
end
end KL
namespace KL
open PySem PySem.Spec PyProof.Rows L2 RZ StX SrtO Kw KM
theorem dp_ints {K : PySem.W.Frag} {H : Hp} : ∀ cs : List Int, DpAll K H (cs.map V.int) (cs.map PyData.int)
  | [] => .nil
  | c :: r => .cons (.int c) (dp_ints r)
theorem lay_ints : ∀ cs : List Int, PyData.canLayAll0 (cs.map PyData.int) = true
  | [] => rfl
  | c :: r => by
    have ih := lay_ints r
    simp only [List.map_cons, PyData.canLayAll0, PyData.canLay0, ih, Bool.and_self]
theorem depth_ints : ∀ cs : List Int, PyData.depthAll (cs.map PyData.int) = 0
  | [] => by simp [PyData.depthAll]
  | c :: r => by
    have ih := depth_ints r
    simp only [List.map_cons, PyData.depthAll, PyData.depth, ih]
    rfl
theorem shaped_ints (cs : List Int) : SeqAt.shaped (.list (cs.map PyData.int)) = true := by
  unfold SeqAt.shaped
  simp [PyData.canLay0, lay_ints, PyData.depth, depth_ints]
section
variable {P : Program} {w : World} {K : PySem.W.Frag} {mg : Str → Option Value} {base : Heap}
def sp__law_draw (K : PySem.W.Frag) : Sp := fun vs H Q _ => ∃ (d l : Addr) (many : Int), vs = [.ref d, .int many] ∧ DeckAt H d l ∧ 1 ≤ many ∧ Bd 2000 many ∧
  ∀ (v : Int) (H' : Hp), 0 ≤ v → v < many → Stp d l H H' → Q (.int v) H'
theorem emodB (a : Int) {b : Int} (h : 0 < b) : 0 ≤ a % b ∧ a % b < b := ⟨Int.emod_nonneg _ (by omega), Int.emod_lt_of_pos _ h⟩
theorem ok__law_draw (T : Txt K mg) : FnOk P w K mg base CX0 1 T.a__law_draw T.d__law_draw ["_law_deck_here", "_law_many"] (sp__law_draw K) := by
  refine T.F__law_draw.ok sc__law_draw (fun vs H Q E h => ?_) (fun cdv A outer s H vs Q E hr h => ?_)
  · obtain ⟨d, l, many, rfl, _⟩ := h
    rfl
  obtain ⟨d, l, many, rfl, hD, h1, hb, q⟩ := h
  refine ⟨_, pss_cons (ps_dput (hu_of hr) (pv 0) pe_str (pe_op op_add (pe_dget (hu_of hr) (pv 0) pe_str (fun _ _ => rfl)) pe_int) rfl)
    (pss_cons (ps_set (i := 2) sc__law_draw.nd rfl (Or.inl rfl) (pe_op op_add (pe_dget (hu_of hr) (pv 0) pe_str (fun _ _ => rfl)) (pe_op op_mul pe_int (pe_dget (hu_of hr) (pv 0) pe_str (fun _ _ => rfl)))))
    (Evl.pss_cut (ps_if (pt_cmpR (op_neD hr.units) (pe_dget (hu_of hr) (pv 0) pe_str (fun _ _ => rfl)) (pe_lst pa_nil) (nomark _)) (pss_cons (ps_set (i := 3) sc__law_draw.nd rfl (Or.inl rfl) (pe_bm0 PySem.F.plainAttrs_list PySem.F.slot_list_pop PySem.F.type_list_pop mt_pop (pe_dget (hu_of hr) (pv 0) pe_str (fun _ _ => rfl))))
        (pss_cons (ps_if (pt_cmpR op_ge (pv 3) (pe_op op_pow pe_int pe_int) (nomark _)) (pss_cons (ps_expr (pe_bm PySem.F.plainAttrs_list PySem.F.slot_list_append PySem.F.type_list_append mt_append (pe_dget (hu_of hr) (pv 0) pe_str (fun _ _ => rfl)) (pa_cons (pe_op op_fdivW (pv 3) (pe_callB (call_max2 rfl) (by rfl) T.n_max (by decide +kernel) (pa_cons pe_int (pa_cons (pv 1) pa_nil)))) pa_nil)))
            (pss_one (ps_ret (pe_op op_mod (pe_callTy call_int1 (by rfl) T.n_int (by decide +kernel) (pa_cons (pv 3) pa_nil)) (pv 1))))) pss_nil)
        (pss_one (ps_set (i := 2) sc__law_draw.nd rfl (Or.inl rfl) (pe_op op_add (pv 2) (pe_op op_mod (pe_callTy call_int1 (by rfl) T.n_int (by decide +kernel) (pa_cons (pv 3) pa_nil)) pe_int)))))) pss_nil)
    (pss_cons (ps_set (i := 2) sc__law_draw.nd rfl (Or.inl rfl) (pe_op op_mod (pe_callTy call_int1 (by rfl) T.n_int (by decide +kernel) (pa_cons (pe_op op_add (pe_op op_mul (pv 2) pe_int) pe_int) pa_nil)) pe_int))
    (pss_cons (ps_set (i := 2) sc__law_draw.nd rfl (Or.inl rfl) (pe_op op_mod (pe_callTy call_int1 (by rfl) T.n_int (by decide +kernel) (pa_cons (pe_op op_add (pe_op op_add (pe_op op_mul (pv 2) (pv 2)) (pe_op op_mul pe_int (pe_dget (hu_of hr) (pv 0) pe_str (fun _ _ => rfl)))) pe_int) pa_nil)) pe_int))
    (pss_cons (ps_set (i := 2) sc__law_draw.nd rfl (Or.inl rfl) (pe_op op_mod (pe_callTy call_int1 (by rfl) T.n_int (by decide +kernel) (pa_cons (pe_op op_mul (pv 2) pe_int) pa_nil)) pe_int))
    (pss_one (ps_ret (pe_op op_mod (pe_callTy call_int1 (by rfl) T.n_int (by decide +kernel) (pa_cons (pe_op op_fdivW (pv 2) pe_int) pa_nil)) (pv 1))))))))), ?_⟩
  have ndl := hD.ne
  have hD0 := hD
  obtain ⟨m, n, cs, e1, e2, h63⟩ := hD
  refine ⟨_, rfl, d, .int n, rfl, dk_N e1, _, _, rfl, rfl, _, rfl, d, _, rfl, dp_N e1, ?_⟩
  have f1 : (upd H d (.dK (deckV l m (n + 1)))) d = some (.dK (deckV l m (n + 1))) := upd_same
  have f2 : (upd H d (.dK (deckV l m (n + 1)))) l = some (.lst (cs.map V.int)) := by rw [upd_ne ndl.symm]; exact e2
  have fk : ∀ b o, b ≠ d → b ≠ l → H b = some o → (upd H d (.dK (deckV l m (n + 1)))) b = some o := fun b o h1 _ e => by rw [upd_ne h1]; exact e
  generalize hH1 : upd H d (.dK (deckV l m (n + 1))) = H1 at f1 f2 fk
  refine ⟨_, rfl, d, _, rfl, dk_M f1, _, rfl, d, _, rfl, dk_N f1, _, _, rfl, rfl, .inl (by decide), _, _, rfl, rfl, ?_⟩
  refine ⟨fun σ H3 => ∃ (num : Int) (z : Option V), σ = [some (.ref d), some (.int many), some (.int num), z] ∧ Stp d l H H3, ?_, ?_⟩
  · refine ⟨_, rfl, d, _, rfl, dk_C f1, (by show 0 ≤ sizeLine; exact Nat.zero_le _), fun p np => ?_⟩
    have s1 := same_new np (.lst [])
    have g1 := s1 _ _ f1
    have g2 := s1 _ _ f2
    have gk : ∀ b o, b ≠ d → b ≠ l → H b = some o → (upd H1 p (.lst [])) b = some o := fun b o h1 h2 e => s1 _ _ (fk b o h1 h2 e)
    have gp : (upd H1 p (.lst [])) p = some (.lst []) := upd_same
    generalize hH2 : upd H1 p (.lst []) = H2 at s1 g1 g2 gk gp
    refine ⟨.list (cs.map PyData.int), .list [], .lst (SqL.of g2) (dp_ints cs), .lst (SqL.of gp) .nil, shaped_ints cs, shaped_ints [], _, rfl, ?_⟩
    have snoc : cs = [] ∨ ∃ a b, cs = a ++ [b] := by
      rcases List.eq_nil_or_concat cs with e | ⟨a, b, e⟩
      · exact .inl e
      · exact .inr ⟨a, b, by rw [e, List.concat_eq_append]⟩
    rcases snoc with rfl | ⟨cs', c, rfl⟩
    · refine iteF ?_
      exact ⟨_, none, rfl, hD0, ⟨m, n + 1, [], g1, g2, by decide⟩, gk⟩
    · have hne : (!(PyData.list (List.map PyData.int (cs' ++ [c]))).eqv (PyData.list [])) = true := by
        cases cs' <;> rfl
      rw [hne]
      refine iteT ?_
      have hl : ((cs' ++ [c]).map V.int)[((cs' ++ [c]).map V.int).length - 1]? = some (.int c) := by
        simp
      have hdl : ((cs' ++ [c]).map V.int).dropLast = cs'.map V.int := by simp
      refine ⟨_, rfl, d, _, rfl, dk_C g1, .inl ⟨rfl, _, SqL.of g2⟩, l, _, _, rfl, rfl, g2, hl, ?_⟩
      rw [hdl]
      have h63' : cs'.length < 63 := by simp at h63; omega
      have i1 : (upd H2 l (.lst (cs'.map V.int))) d = some (.dK (deckV l m (n + 1))) := by rw [upd_ne ndl]; exact g1
      have i2 : (upd H2 l (.lst (cs'.map V.int))) l = some (.lst (cs'.map V.int)) := upd_same
      have ik : ∀ b o, b ≠ d → b ≠ l → H b = some o → (upd H2 l (.lst (cs'.map V.int))) b = some o := fun b o h1 h2 e => by rw [upd_ne h2]; exact gk b o h1 h2 e
      generalize hH3 : upd H2 l (.lst (cs'.map V.int)) = H3 at i1 i2 ik
      refine ⟨_, rfl, _, _, rfl, rfl, ⟨by decide, by decide, by decide⟩, _, _, rfl, rfl, _, rfl, ite2 (fun _ => ?_) (fun _ => ?_)⟩
      · refine ⟨_, rfl, d, _, rfl, dk_C i1, .inl ⟨rfl, _, SqL.of i2⟩, _, rfl, _, rfl, _, _, rfl, ?_⟩
        have mx : ∃ b : Int, (if many > 2 then many else 2) = b ∧ 0 < b ∧ Bd 2000 b := by
          by_cases c : many > 2
          · exact ⟨many, by rw [if_pos c], by omega, hb⟩
          · exact ⟨2, by rw [if_neg c], by decide, Bd.mono (a := 2) (by unfold Bd; decide) (by decide)⟩
        obtain ⟨b, eb, b0, bb⟩ := mx
        rw [eb]
        refine ⟨_, _, rfl, rfl, bb.divOk b0 (by decide) _, l, _, _, rfl, rfl, i2, ?_, ?_⟩
        · rw [List.length_map]
          exact Nat.lt_of_lt_of_le h63' (by decide)
        · refine ⟨_, rfl, .inl ⟨_, rfl, _, rfl, _, _, rfl, rfl, (show (0 : Int) < many by omega), ?_⟩⟩
          refine q _ _ (emodB _ (by omega)).1 (emodB _ (by omega)).2 ⟨hD0, ⟨m, n + 1, cs' ++ [c / b], ?_, ?_, ?_⟩, ?_⟩
          · rw [upd_ne ndl]
            exact i1
          · rw [upd_same, List.map_append]
            rfl
          · rw [List.length_append, List.length_singleton]
            omega
          · intro x o h1 h2 e
            rw [upd_ne h2]
            exact ik x o h1 h2 e
      · refine ⟨_, rfl, _, rfl, .inl ⟨_, rfl, _, _, rfl, rfl, (show (0 : Int) < 2147483629 by decide), _, _, rfl, rfl, ?_⟩⟩
        exact ⟨_, _, rfl, hD0, ⟨m, n + 1, cs', i1, i2, by omega⟩, ik⟩
  · rintro σ H3 ⟨num, z, rfl, st⟩
    obtain ⟨m', n', cs', k1, k2, _⟩ := st.post.ex
    have b1 := emodB (num * 39373 + 83) (b := 2147483647) (by decide)
    refine ⟨_, rfl, _, _, rfl, rfl, .inr (by decide), _, _, rfl, rfl, .inl ⟨_, rfl, _, _, rfl, rfl, (show (0 : Int) < 2147483647 by decide), ?_⟩⟩
    generalize hv : (num * 39373 + 83) % 2147483647 = v1 at b1
    have hv' : ∀ {X : Int → Prop}, X v1 → X ((num * 39373 + 83) % 2147483647) := fun h => by rw [hv]; exact h
    refine ⟨_, rfl, _, rfl, _, _, rfl, rfl, .inl ?_, _, rfl, d, _, rfl, dk_N k1, _, _, rfl, rfl, .inl (by decide), _, _, rfl, rfl, _, _, rfl, rfl, .inl ⟨_, rfl, _, _, rfl, rfl, (show (0 : Int) < 2147483587 by decide), ?_⟩⟩
    · show -(2 ^ 64) < (num * 39373 + 83) % 2147483647 ∧ (num * 39373 + 83) % 2147483647 < 2 ^ 64
      omega
    refine ⟨_, rfl, _, _, rfl, rfl, .inr (by decide), .inl ⟨_, rfl, _, _, rfl, rfl, (show (0 : Int) < 2147483563 by decide), ?_⟩⟩
    refine ⟨_, rfl, _, _, rfl, rfl, (Bd.divOk (b := 7) (by decide) (by show (64 : Int).natAbs < 128; decide) (by decide) _), .inl ⟨_, rfl, _, rfl, _, _, rfl, rfl, (show (0 : Int) < many by omega), ?_⟩⟩
    exact q _ H3 (emodB _ (by omega)).1 (emodB _ (by omega)).2 st
theorem cl__law_draw {X : Cx} {p pos : Pos} {e : Expr} {es : List Expr} {t : TA} (T : Txt K mg) (hr : Room 1 X.A) (ha : PA X (e :: es) t) (hg : Gl X "_law_draw" := by rfl)
    (he : starEach (e :: es) X.env = (false, eval e X.env) :: starEach es X.env := by rfl) (hpl : (backTo pos (starEach es X.env)).any (·.1) = false := by rfl) (hK : X.K = K := by rfl) (hmg : X.mg = mg := by rfl) :
    PE X (.Call (.Name "_law_draw" p) (e :: es) [] pos) (tCall (sp__law_draw K) [] E0 t) := by
  subst hK hmg
  exact pe_call (ok__law_draw T) hr hg T.m__law_draw T.F__law_draw.kp T.b__law_draw .nil pass0 ha (by decide) he hpl
end
end KL
namespace KL
open PySem PySem.Spec PyProof.Rows L2 RZ StX SrtO Kw KM
section
variable {P : Program} {w : World} {K : PySem.W.Frag} {mg : Str → Option Value} {base : Heap}
/-! ### pick -/
def sp__law_pick (K : PySem.W.Frag) : Sp := fun vs H Q _ => ∃ (d l a : Addr) (xs : List V), vs = [.ref d, .ref a] ∧ DeckAt H d l ∧ SqL K H a xs ∧ a ≠ l ∧ 1 ≤ xs.length ∧ xs.length ≤ 1000 ∧
  ∀ (v : V) (H' : Hp), v ∈ xs → Stp d l H H' → Q v H'
theorem bdN {n : Nat} {i : Int} (h0 : 0 ≤ i) (h : i ≤ n) (hn : n < 2 ^ 2000) : Bd 2000 i := by
  unfold Bd
  omega
theorem ok__law_pick (T : Txt K mg) : FnOk P w K mg base CX0 2 T.a__law_pick T.d__law_pick ["_law_deck_here", "_law_some"] (sp__law_pick K) := by
  refine T.F__law_pick.ok sc__law_pick (fun vs H Q E h => ?_) (fun cdv A outer s H vs Q E hr h => ?_)
  · obtain ⟨d, l, a, xs, rfl, _⟩ := h
    rfl
  obtain ⟨d, l, a, xs, rfl, hD, hs, hal, h1, h2, q⟩ := h
  refine ⟨_, pss_one (ps_ret (pe_ix ix_list (pv 1) (cl__law_draw T (hr.mono (by decide)) (pa_cons (pv 0) (pa_cons (pe_callB call_len_seq (by rfl) T.n_len (by decide +kernel) (pa_cons (pv 1) pa_nil)) pa_nil))) (fun _ _ => rfl))), ?_⟩
  refine ⟨_, rfl, _, rfl, _, rfl, a, _, rfl, .inl hs, d, l, _, rfl, hD, (by omega), bdN (n := 1000) (by omega) (by omega) (by decide), fun v H' v0 v1 st => ?_⟩
  have hv : v.toNat < xs.length := by omega
  have ev : v = ((v.toNat : Nat) : Int) := by omega
  refine ⟨a, xs, v, xs[v.toNat], rfl, rfl, st.sqlO hal hs, ?_, q _ H' (List.getElem_mem hv) st⟩
  have z := atI_nat (xs := xs) (List.getElem?_eq_getElem hv)
  rw [← ev] at z
  exact z
theorem cl__law_pick {X : Cx} {p pos : Pos} {e : Expr} {es : List Expr} {t : TA} (T : Txt K mg) (hr : Room 2 X.A) (ha : PA X (e :: es) t) (hg : Gl X "_law_pick" := by rfl)
    (he : starEach (e :: es) X.env = (false, eval e X.env) :: starEach es X.env := by rfl) (hpl : (backTo pos (starEach es X.env)).any (·.1) = false := by rfl) (hK : X.K = K := by rfl) (hmg : X.mg = mg := by rfl) :
    PE X (.Call (.Name "_law_pick" p) (e :: es) [] pos) (tCall (sp__law_pick K) [] E0 t) := by
  subst hK hmg
  exact pe_call (ok__law_pick T) hr hg T.m__law_pick T.F__law_pick.kp T.b__law_pick .nil pass0 ha (by decide) he hpl
/-! ### great -/
def sp__law_great (K : PySem.W.Frag) : Sp := fun vs H Q _ => ∃ (d l : Addr) (top : Int), vs = [.ref d, .int top] ∧ DeckAt H d l ∧ 1 ≤ top ∧ Bd 1000 top ∧
  ∀ (v : Int) (H' : Hp), 0 ≤ v → v < top → Stp d l H H' → Q (.int v) H'
theorem ok__law_great (T : Txt K mg) : FnOk P w K mg base CX0 2 T.a__law_great T.d__law_great ["_law_deck_here", "_law_top"] (sp__law_great K) := by
  refine T.F__law_great.ok sc__law_great (fun vs H Q E h => ?_) (fun cdv A outer s H vs Q E hr h => ?_)
  · obtain ⟨d, l, top, rfl, _⟩ := h
    rfl
  obtain ⟨d, l, top, rfl, hD, h1, hb, q⟩ := h
  refine ⟨_, pss_cons (ps_if (pt_cmpR op_le (pv 1) (pe_op op_pow pe_int pe_int) (nomark _)) (pss_one (ps_ret (cl__law_draw T (hr.mono (by decide)) (pa_cons (pv 0) (pa_cons (pv 1) pa_nil))))) pss_nil)
    (pss_cons (ps_asg (pe_tup (pa_cons pe_int (pa_cons pe_int pa_nil))) (pg_tup (by rfl) (pgs_cons (pg_name (i := 2) sc__law_great.nd rfl (Or.inl rfl)) (pgs_cons (pg_name (i := 3) sc__law_great.nd rfl (Or.inl rfl)) pgs_nil))))
    (pss_cons (ps_while PassesOwn.never (pt_cmpR op_lt (pv 3) (pv 1) (nomark _)) (pss_one (ps_par (i := 2) (j := 3) (by rfl) sc__law_great.nd rfl rfl (by decide) rfl rfl (pa_cons (pe_op op_add (pe_op op_mul (pv 2) (pe_op op_pow pe_int pe_int)) (cl__law_draw T (hr.mono (by decide)) (pa_cons (pv 0) (pa_cons (pe_op op_pow pe_int pe_int) pa_nil)))) (pa_cons (pe_op op_mul (pv 3) (pe_op op_pow pe_int pe_int)) pa_nil)) (by rfl))))
    (pss_one (ps_ret (pe_op op_mod (pv 2) (pv 1)))))), ?_⟩
  refine ⟨_, rfl, _, _, rfl, rfl, ⟨by decide, by decide, by decide⟩, _, _, rfl, rfl, _, rfl, ite2 (fun _ => ?_) (fun _ => ?_)⟩
  · exact ⟨_, rfl, _, rfl, d, l, top, rfl, hD, h1, hb.mono (by decide), q⟩
  refine ⟨(by show 2 ≤ sizeLine; decide), fun t nt => ⟨t, _, rfl, SqT.of upd_same, rfl, _, _, rfl, _, _, rfl, rfl, ?_⟩⟩
  have st0 := hD.stp (same_new nt (.tup [V.int 0, V.int 1]))
  refine ⟨fun m σ H' => ∃ f r : Int, σ = [some (.ref d), some (.int top), some (.int f), some (.int r)] ∧ 0 ≤ f ∧ 1 ≤ r ∧ m = (top - r).toNat ∧ Stp d l H H', ⟨_, 0, 1, rfl, by decide, by decide, rfl, st0⟩, ?_⟩
  rintro m σ H' ⟨f, r, rfl, hf, hr1, rfl, st⟩
  refine ⟨_, rfl, _, rfl, _, _, rfl, rfl, _, rfl, ite2 (fun c => ?_) (fun c => ?_)⟩
  · have c := of_decide_eq_true c
    refine ⟨fun σ H2 => ∃ f r' : Int, σ = [some (.ref d), some (.int top), some (.int f), some (.int r')] ∧ 0 ≤ f ∧ r < r' ∧ Stp d l H H2, ?_, ?_⟩
    · rintro σ' H2 ⟨f', r', rfl, h0, h3, st'⟩
      exact ⟨(top - r').toNat, by omega, f', r', rfl, h0, by omega, rfl, st'⟩
    · refine ⟨_, rfl, _, _, rfl, rfl, ⟨by decide, by decide, by decide⟩, _, _, rfl, rfl, .inr ⟨by decide, by decide⟩, ?_⟩
      refine ⟨_, rfl, _, _, rfl, rfl, ⟨by decide, by decide, by decide⟩, d, l, _, rfl, st.post, by decide, Bd.mono (a := 20) (by unfold Bd; decide) (by decide), fun v H2 v0 v1 st2 => ?_⟩
      refine ⟨_, _, rfl, rfl, _, rfl, _, _, rfl, rfl, ⟨by decide, by decide, by decide⟩, _, _, rfl, rfl, .inr ⟨by decide, by decide⟩, ?_⟩
      refine ⟨_, _, rfl, _, _, rfl, ?_, ?_, st.trans st2⟩
      · have : (0 : Int) ≤ f * 10 ^ (6 : Int).toNat := Int.mul_nonneg hf (by decide)
        show 0 ≤ f * 10 ^ (6 : Int).toNat + v
        omega
      · show r < r * 10 ^ (6 : Int).toNat
        have e : (10 : Int) ^ (6 : Int).toNat = 1000000 := by decide
        rw [e]
        omega
  · refine ⟨_, rfl, _, rfl, _, _, rfl, rfl, (show (0 : Int) < top by omega), ?_⟩
    exact q _ H' (emodB f (by omega)).1 (emodB f (by omega)).2 st
theorem cl__law_great {X : Cx} {p pos : Pos} {e : Expr} {es : List Expr} {t : TA} (T : Txt K mg) (hr : Room 2 X.A) (ha : PA X (e :: es) t) (hg : Gl X "_law_great" := by rfl)
    (he : starEach (e :: es) X.env = (false, eval e X.env) :: starEach es X.env := by rfl) (hpl : (backTo pos (starEach es X.env)).any (·.1) = false := by rfl) (hK : X.K = K := by rfl) (hmg : X.mg = mg := by rfl) :
    PE X (.Call (.Name "_law_great" p) (e :: es) [] pos) (tCall (sp__law_great K) [] E0 t) := by
  subst hK hmg
  exact pe_call (ok__law_great T) hr hg T.m__law_great T.F__law_great.kp T.b__law_great .nil pass0 ha (by decide) he hpl
/-! ### signed -/
def sp__law_signed (K : PySem.W.Frag) : Sp := fun vs H Q _ => ∃ (d l : Addr) (top : Int), vs = [.ref d, .int top] ∧ DeckAt H d l ∧ 4 ≤ top ∧ Bd 1000 top ∧
  ∀ (v : Int) (H' : Hp), -top ≤ v → v ≤ top → Stp d l H H' → Q (.int v) H'
theorem ok__law_signed (T : Txt K mg) : FnOk P w K mg base CX0 3 T.a__law_signed T.d__law_signed ["_law_deck_here", "_law_top"] (sp__law_signed K) := by
  refine T.F__law_signed.ok sc__law_signed (fun vs H Q E h => ?_) (fun cdv A outer s H vs Q E hr h => ?_)
  · obtain ⟨d, l, top, rfl, _⟩ := h
    rfl
  obtain ⟨d, l, top, rfl, hD, h4, hb, q⟩ := h
  refine ⟨_, pss_cons (ps_set (i := 2) sc__law_signed.nd rfl (Or.inl rfl) (cl__law_draw T (hr.mono (by decide)) (pa_cons (pv 0) (pa_cons pe_int pa_nil))))
    (pss_cons (ps_if (pt_cmpR op_eq (pv 2) pe_int (nomark _)) (pss_one (ps_ret (pe_op op_sub (cl__law_draw T (hr.mono (by decide)) (pa_cons (pv 0) (pa_cons pe_int pa_nil))) pe_int))) pss_nil)
    (Evl.pss_cut (ps_set (i := 3) sc__law_signed.nd rfl (Or.inl rfl) (pe_ifExp (pt_cmpR op_eq (pv 2) pe_int (nomark _)) (pe_op op_sub (pe_op op_sub (pv 1) pe_int) (cl__law_draw T (hr.mono (by decide)) (pa_cons (pv 0) (pa_cons pe_int pa_nil)))) (cl__law_great T (hr.mono (by decide)) (pa_cons (pv 0) (pa_cons (pv 1) pa_nil)))))
    (pss_one (ps_ret (pe_ifExp (pt_cmpR op_eq (cl__law_draw T (hr.mono (by decide)) (pa_cons (pv 0) (pa_cons pe_int pa_nil))) pe_int (nomark _)) (pv 3) (pe_un un_neg (pv 3))))))), ?_⟩
  have small : ∀ n : Nat, n < 100 → Bd 2000 (n : Int) := fun n h => bdN (n := n) (by omega) (by omega) (Nat.lt_of_lt_of_le h (by decide))
  refine ⟨_, rfl, d, l, 5, rfl, hD, by decide, small 5 (by decide), fun way H1 w0 w1 st1 => ?_⟩
  refine ⟨_, rfl, rfl, _, rfl, ite2 (fun _ => ?_) (fun _ => ?_)⟩
  · refine ⟨_, rfl, d, l, 9, rfl, st1.post, by decide, small 9 (by decide), fun v H2 v0 v1 st2 => ?_⟩
    exact ⟨_, _, rfl, rfl, q _ H2 (by omega) (by omega) (st1.trans st2)⟩
  refine ⟨fun σ H3 => ∃ v : Int, σ = [some (.ref d), some (.int top), some (.int way), some (.int v)] ∧ 0 ≤ v + 3 ∧ v ≤ top ∧ Stp d l H H3, ?_, ?_⟩
  · refine ⟨_, rfl, rfl, _, rfl, ite2 (fun _ => ?_) (fun _ => ?_)⟩
    · refine ⟨_, rfl, _, _, rfl, rfl, _, rfl, d, l, 3, rfl, st1.post, by decide, small 3 (by decide), fun v H2 v0 v1 st2 => ?_⟩
      exact ⟨_, _, rfl, rfl, _, rfl, by omega, by omega, st1.trans st2⟩
    · refine ⟨_, rfl, _, rfl, d, l, top, rfl, st1.post, by omega, hb, fun v H2 v0 v1 st2 => ?_⟩
      exact ⟨v, rfl, by omega, by omega, st1.trans st2⟩
  · rintro σ H3 ⟨v, rfl, v0, v1, st3⟩
    refine ⟨_, rfl, d, l, 2, rfl, st3.post, by decide, small 2 (by decide), fun z H4 z0 z1 st4 => ?_⟩
    refine ⟨rfl, _, rfl, ite2 (fun _ => ?_) (fun _ => ?_)⟩
    · exact ⟨_, rfl, q _ H4 (by omega) (by omega) (st3.trans st4)⟩
    · exact ⟨_, rfl, _, rfl, q _ H4 (by omega) (by omega) (st3.trans st4)⟩
theorem cl__law_signed {X : Cx} {p pos : Pos} {e : Expr} {es : List Expr} {t : TA} (T : Txt K mg) (hr : Room 3 X.A) (ha : PA X (e :: es) t) (hg : Gl X "_law_signed" := by rfl)
    (he : starEach (e :: es) X.env = (false, eval e X.env) :: starEach es X.env := by rfl) (hpl : (backTo pos (starEach es X.env)).any (·.1) = false := by rfl) (hK : X.K = K := by rfl) (hmg : X.mg = mg := by rfl) :
    PE X (.Call (.Name "_law_signed" p) (e :: es) [] pos) (tCall (sp__law_signed K) [] E0 t) := by
  subst hK hmg
  exact pe_call (ok__law_signed T) hr hg T.m__law_signed T.F__law_signed.kp T.b__law_signed .nil pass0 ha (by decide) he hpl
/-! ### product -/
def prodI (ns : List Nat) : Nat := ns.foldl (fun a b => a * b) 1
theorem prodI_snoc (ns : List Nat) (n : Nat) : prodI (ns ++ [n]) = prodI ns * n := by
  unfold prodI
  rw [List.foldl_append]
  rfl
theorem prodI_pos : ∀ {ns : List Nat}, (∀ n ∈ ns, 1 ≤ n) → ∀ a, 1 ≤ a → a ≤ ns.foldl (fun a b => a * b) a
  | [], _, a, _ => Nat.le_refl a
  | n :: r, h, a, ha => by
    have h1 := h n List.mem_cons_self
    have h2 : a ≤ a * n := Nat.le_mul_of_pos_right a h1
    exact Nat.le_trans h2 (prodI_pos (fun m hm => h m (List.mem_cons_of_mem _ hm)) (a * n) (Nat.le_trans ha h2))
theorem prodI_take {ns : List Nat} (h : ∀ n ∈ ns, 1 ≤ n) (i : Nat) : 1 ≤ prodI (ns.take i) ∧ prodI (ns.take i) ≤ prodI ns := by
  have h1 : 1 ≤ prodI (ns.take i) := prodI_pos (fun m hm => h m (List.mem_of_mem_take hm)) 1 (Nat.le_refl 1)
  refine ⟨h1, ?_⟩
  have e : prodI ns = (ns.drop i).foldl (fun a b => a * b) (prodI (ns.take i)) := by
    unfold prodI
    rw [← List.foldl_append, List.take_append_drop]
  rw [e]
  exact prodI_pos (fun m hm => h m (List.mem_of_mem_drop hm)) _ h1
def sp__law_product (K : PySem.W.Frag) : Sp := fun vs H Q _ => ∃ (a : Addr) (ns : List Nat), vs = [.ref a] ∧ SqL K H a ((intsN ns).map V.int) ∧ (∀ n ∈ ns, 1 ≤ n) ∧ prodI ns < 2 ^ 1000 ∧ Q (.int ((prodI ns : Nat) : Int)) H
theorem ok__law_product (T : Txt K mg) : FnOk P w K mg base CX0 1 T.a__law_product T.d__law_product ["_law_some"] (sp__law_product K) := by
  refine T.F__law_product.ok sc__law_product (fun vs H Q E h => ?_) (fun cdv A outer s H vs Q E hr h => ?_)
  · obtain ⟨a, ns, rfl, _⟩ := h
    rfl
  obtain ⟨a, ns, rfl, hs, h1, hb, q⟩ := h
  refine ⟨_, pss_cons (ps_set (i := 1) sc__law_product.nd rfl (Or.inl rfl) pe_int)
    (pss_cons (ps_for PassesOwn.never rfl (pi_list (pv 0)) (pg_name (i := 2) sc__law_product.nd rfl (Or.inl rfl)) (pss_one (ps_set (i := 1) sc__law_product.nd rfl (Or.inl rfl) (pe_op op_mulW (pv 1) (pv 2)))))
    (pss_one (ps_ret (pv 1)))), ?_⟩
  refine ⟨_, rfl, a, rfl, ⟨_, hs⟩, for_list (xs := (intsN ns).map V.int) (fun i σ H' => ∃ z, σ = [some (.ref a), some (.int ((prodI (ns.take i) : Nat) : Int)), z] ∧ H = H') ⟨none, rfl, rfl⟩ ?_ ?_ ?_⟩
  · rintro i σ H' _ ⟨z, rfl, rfl⟩
    exact hs
  · rintro i x σ H' hx ⟨z, rfl, rfl⟩
    rw [List.getElem?_map, List.getElem?_map] at hx
    obtain ⟨n, hn, rfl⟩ : ∃ n, ns[i]? = some n ∧ V.int (n : Int) = x := by
      cases e : ns[i]? with
      | none => rw [e] at hx; cases hx
      | some y => rw [e] at hx; exact ⟨y, rfl, Option.some.inj hx⟩
    have p1 := prodI_take h1 i
    have p2 := prodI_take h1 (i + 1)
    have e3 : ns.take (i + 1) = ns.take i ++ [n] := by rw [List.take_add_one, hn]; rfl
    rw [e3, prodI_snoc] at p2
    have hn2 : n ≤ prodI (ns.take i) * n := Nat.le_mul_of_pos_left n p1.1
    have b1 : Bd 1000 ((prodI (ns.take i) : Nat) : Int) := by unfold Bd; omega
    have b2 : Bd 1000 (n : Int) := by unfold Bd; omega
    refine ⟨_, rfl, _, rfl, _, _, rfl, rfl, b1.mulOk b2, some (.int (n : Int)), ?_, rfl⟩
    rw [e3, prodI_snoc, Int.natCast_mul]
    rfl
  · rintro σ H' ⟨z, rfl, rfl⟩
    have e : ns.take ((intsN ns).map V.int).length = ns := by simp
    rw [e]
    exact ⟨_, rfl, q⟩
theorem cl__law_product {X : Cx} {p pos : Pos} {e : Expr} {es : List Expr} {t : TA} (T : Txt K mg) (hr : Room 1 X.A) (ha : PA X (e :: es) t) (hg : Gl X "_law_product" := by rfl)
    (he : starEach (e :: es) X.env = (false, eval e X.env) :: starEach es X.env := by rfl) (hpl : (backTo pos (starEach es X.env)).any (·.1) = false := by rfl) (hK : X.K = K := by rfl) (hmg : X.mg = mg := by rfl) :
    PE X (.Call (.Name "_law_product" p) (e :: es) [] pos) (tCall (sp__law_product K) [] E0 t) := by
  subst hK hmg
  exact pe_call (ok__law_product T) hr hg T.m__law_product T.F__law_product.kp T.b__law_product .nil pass0 ha (by decide) he hpl
end
end KL
namespace KL
open PySem PySem.Spec PyProof.Rows L2 RZ StX SrtO Kw KM
section
variable {P : Program} {w : World} {K : PySem.W.Frag} {mg : Str → Option Value} {base : Heap}
theorem ok__law_along (T : Txt K mg) : FnOk P w K mg base CX0 1 T.a__law_along T.d__law_along ["_law_c", "_law_x"] (sp_dot K) := by
  refine T.F__law_along.ok sc__law_along (fun vs H Q E h => ?_) (fun cdv A outer s H vs Q E hr h => ?_)
  · obtain ⟨a, b, cs, xs, rfl, _⟩ := h
    rfl
  obtain ⟨a, b, cs, xs, rfl, ha, hb, hl, h3, hcb, hxb, q⟩ := h
  refine ⟨_, pss_one (ps_ret (pe_callB (cr_sum rfl) (by rfl) T.n_sum (by decide +kernel) (pa_cons (pe_lc (own := [("_law_one", 2), ("_law_other", 3)]) (g := gTup K 2 (gCons (gName 2) (gCons (gName 3) gNil))) rfl sc__law_along.nd (pi_zipA (by rfl) T.n_zip (pa_cons (pv 0) (pa_cons (pv 1) pa_nil))) (blkOk_by (N := N__law_along) (sc := defScope s__law_along) (by decide +kernel)) (fun _ _ _ _ _ => (pg_tup (by rfl) (pgs_cons (pg_name (i := 2) sc__law_along.nd rfl (Or.inl rfl)) (pgs_cons (pg_name (i := 3) sc__law_along.nd rfl (Or.inl rfl)) pgs_nil)))) (fun _ _ _ _ _ => pts_nil) (fun _ _ _ _ _ => (pe_op op_mulW (pv 2) (pv 3)))) pa_nil))), ?_⟩
  have hl' : (cs.map V.int).length = (xs.map V.int).length := by simp [hl]
  refine ⟨_, rfl, _, rfl, a, b, _, _, rfl, .inr ⟨ha, hb, fun D nD => lc_zipT hl' (Lc H D fun i => ((List.zipWith (fun a b => a * b) cs xs).take i).map V.int) (lc_start nD rfl) (fun _ _ h => ⟨h.1.sqt ha, h.1.sqt hb⟩) (fun i x y t H1 hx hy h nt => ?_) (fun H1 h => ?_)⟩⟩
  · rw [List.getElem?_map] at hx hy
    obtain ⟨c, hc, rfl⟩ := Option.map_eq_some_iff.mp hx
    obtain ⟨z, hz, rfl⟩ := Option.map_eq_some_iff.mp hy
    have sT := same_new nt (.tup [V.int c, V.int z])
    refine ⟨t, _, rfl, SqT.of upd_same, rfl, _, _, rfl, _, _, rfl, rfl, rfl, yes_ (iteT ?_)⟩
    refine ⟨_, rfl, _, rfl, _, _, rfl, rfl, (hcb c (List.mem_of_getElem? hc)).mulOk (hxb z (List.mem_of_getElem? hz)), ?_⟩
    refine lc_leaf nD (h.1.trans sT) (sT _ _ h.2) ?_ ?_
    · simp only [List.length_map, List.length_take, List.length_zipWith]
      omega
    · have e : (List.zipWith (fun a b => a * b) cs xs)[i]? = some (c * z) := by
        rw [List.getElem?_zipWith, hc, hz]
      rw [List.take_add_one, e, List.map_append]
      rfl
  · refine ⟨D, List.zipWith (fun a b => a * b) cs xs, rfl, ?_, q H1 h.1⟩
    have e : H1 D = some (.lst (((List.zipWith (fun a b => a * b) cs xs).take (cs.map V.int).length).map V.int)) := h.2
    rw [List.take_of_length_le (by simp; omega)] at e
    exact SqL.of e
theorem cl__law_along {X : Cx} {p pos : Pos} {e : Expr} {es : List Expr} {t : TA} (T : Txt K mg) (hr : Room 1 X.A) (ha : PA X (e :: es) t) (hg : Gl X "_law_along" := by rfl)
    (he : starEach (e :: es) X.env = (false, eval e X.env) :: starEach es X.env := by rfl) (hpl : (backTo pos (starEach es X.env)).any (·.1) = false := by rfl) (hK : X.K = K := by rfl) (hmg : X.mg = mg := by rfl) :
    PE X (.Call (.Name "_law_along" p) (e :: es) [] pos) (tCall (sp_dot K) [] E0 t) := by
  subst hK hmg
  exact pe_call (ok__law_along T) hr hg T.m__law_along T.F__law_along.kp T.b__law_along .nil pass0 ha (by decide) he hpl
/-! ### common -/
def sp__law_common : Sp := fun vs H Q _ => ∃ a b : Int, vs = [.int a, .int b] ∧ Q (.int ((Nat.gcd a.natAbs b.natAbs : Nat) : Int)) H
theorem abs_nat (i : Int) : (if i < 0 then -i else i) = ((i.natAbs : Nat) : Int) := by
  split <;> omega
theorem ok__law_common (T : Txt K mg) : FnOk P w K mg base CX0 1 T.a__law_common T.d__law_common ["_law_one", "_law_other"] sp__law_common := by
  refine T.F__law_common.ok sc__law_common (fun vs H Q E h => ?_) (fun cdv A outer s H vs Q E hr h => ?_)
  · obtain ⟨a, b, rfl, _⟩ := h
    rfl
  obtain ⟨a, b, rfl, q⟩ := h
  refine ⟨_, pss_cons (ps_par (i := 0) (j := 1) (by rfl) sc__law_common.nd rfl rfl (by decide) rfl rfl (pa_cons (pe_callB call_abs (by rfl) T.n_abs (by decide +kernel) (pa_cons (pv 0) pa_nil)) (pa_cons (pe_callB call_abs (by rfl) T.n_abs (by decide +kernel) (pa_cons (pv 1) pa_nil)) pa_nil)) (by rfl))
    (pss_cons (ps_while PassesOwn.never (pt_cmpR op_gt (pv 1) pe_int (nomark _)) (pss_one (ps_par (i := 0) (j := 1) (by rfl) sc__law_common.nd rfl rfl (by decide) rfl rfl (pa_cons (pv 1) (pa_cons (pe_op op_mod (pe_callTy call_int1 (by rfl) T.n_int (by decide +kernel) (pa_cons (pv 0) pa_nil)) (pv 1)) pa_nil)) (by rfl))))
    (pss_one (ps_ret (pv 0)))), ?_⟩
  refine ⟨_, rfl, _, rfl, _, rfl, _, rfl, _, _, rfl, ?_⟩
  refine ⟨fun m σ H' => ∃ x y : Nat, σ = [some (.int x), some (.int y)] ∧ Nat.gcd x y = Nat.gcd a.natAbs b.natAbs ∧ m = y ∧ H = H', ⟨_, a.natAbs, b.natAbs, ?_, rfl, rfl, rfl⟩, ?_⟩
  · show [some (V.int (if a < 0 then -a else a)), some (V.int (if b < 0 then -b else b))] = _
    rw [abs_nat, abs_nat]
  rintro m σ H' ⟨x, y, rfl, hg, rfl, rfl⟩
  refine ⟨_, rfl, _, _, rfl, rfl, _, rfl, ite2 (fun c => ?_) (fun c => ?_)⟩
  · have c : (0 : Int) < m := of_decide_eq_true c
    refine ⟨fun σ H2 => ∃ x y' : Nat, σ = [some (.int x), some (.int y')] ∧ Nat.gcd x y' = Nat.gcd a.natAbs b.natAbs ∧ y' < m ∧ H = H2, ?_, ?_⟩
    · rintro σ' H2 ⟨x', y', e1, e2, e3, e4⟩
      exact ⟨y', e3, x', y', e1, e2, rfl, e4⟩
    · refine ⟨_, rfl, _, rfl, .inl ⟨_, rfl, _, rfl, _, _, rfl, rfl, c, _, _, rfl, m, x % m, ?_, ?_, Nat.mod_lt _ (by omega), rfl⟩⟩
      · rw [Int.natCast_emod]
        rfl
      · rw [← hg, Nat.gcd_comm x m, Nat.gcd_rec m x, Nat.gcd_comm]
  · have c : ¬ (0 : Int) < m := fun z => c (decide_eq_true z)
    obtain rfl : m = 0 := by omega
    rw [Nat.gcd_zero_right] at hg
    rw [← hg] at q
    exact ⟨_, rfl, q⟩
theorem cl__law_common {X : Cx} {p pos : Pos} {e : Expr} {es : List Expr} {t : TA} (T : Txt K mg) (hr : Room 1 X.A) (ha : PA X (e :: es) t) (hg : Gl X "_law_common" := by rfl)
    (he : starEach (e :: es) X.env = (false, eval e X.env) :: starEach es X.env := by rfl) (hpl : (backTo pos (starEach es X.env)).any (·.1) = false := by rfl) (hK : X.K = K := by rfl) (hmg : X.mg = mg := by rfl) :
    PE X (.Call (.Name "_law_common" p) (e :: es) [] pos) (tCall sp__law_common [] E0 t) := by
  subst hK hmg
  exact pe_call (ok__law_common T) hr hg T.m__law_common T.F__law_common.kp T.b__law_common .nil pass0 ha (by decide) he hpl
/-! ### moved -/
def movI (xs ts : List Int) (k : Int) : List Int := List.zipWith (fun a b => a + k * b) xs ts
def sp__law_moved (K : PySem.W.Frag) : Sp := fun vs H Q _ => ∃ (a b : Addr) (xs ts : List Int) (k : Int), vs = [.ref a, .ref b, .int k] ∧ SqT K H a (xs.map V.int) ∧ SqT K H b (ts.map V.int) ∧ xs.length = ts.length ∧ xs.length ≤ 3 ∧
  (∀ x ∈ ts, Bd 2000 x) ∧ Bd 2000 k ∧ ∀ p H', Same H H' → H p = none → SqT K H' p ((movI xs ts k).map V.int) → Q (.ref p) H'
theorem ok__law_moved (T : Txt K mg) : FnOk P w K mg base CX0 1 T.a__law_moved T.d__law_moved ["_law_x", "_law_t", "_law_k"] (sp__law_moved K) := by
  refine T.F__law_moved.ok sc__law_moved (fun vs H Q E h => ?_) (fun cdv A outer s H vs Q E hr h => ?_)
  · obtain ⟨a, b, cs, xs, k, rfl, _⟩ := h
    rfl
  obtain ⟨a, b, xs, ts, k, rfl, ha, hb, hl, h3, htb, hkb, q⟩ := h
  refine ⟨_, pss_one (ps_ret (pe_callTy call_tuple_of (by rfl) T.n_tuple (by decide +kernel) (pa_cons (pe_lc (own := [("_law_one", 3), ("_law_step_here", 4)]) (g := gTup K 2 (gCons (gName 3) (gCons (gName 4) gNil))) rfl sc__law_moved.nd (pi_zipA (by rfl) T.n_zip (pa_cons (pv 0) (pa_cons (pv 1) pa_nil))) (blkOk_by (N := N__law_moved) (sc := defScope s__law_moved) (by decide +kernel)) (fun _ _ _ _ _ => (pg_tup (by rfl) (pgs_cons (pg_name (i := 3) sc__law_moved.nd rfl (Or.inl rfl)) (pgs_cons (pg_name (i := 4) sc__law_moved.nd rfl (Or.inl rfl)) pgs_nil)))) (fun _ _ _ _ _ => pts_nil) (fun _ _ _ _ _ => (pe_op op_add (pv 3) (pe_op op_mulW (pv 2) (pv 4))))) pa_nil))), ?_⟩
  have hl' : (xs.map V.int).length = (ts.map V.int).length := by simp [hl]
  refine ⟨_, rfl, _, rfl, a, b, _, _, rfl, .inr ⟨ha, hb, fun D nD => lc_zipT hl' (Lc H D fun i => ((movI xs ts k).take i).map V.int) (lc_start nD rfl) (fun _ _ h => ⟨h.1.sqt ha, h.1.sqt hb⟩) (fun i x y t H1 hx hy h nt => ?_) (fun H1 h => ?_)⟩⟩
  · rw [List.getElem?_map] at hx hy
    obtain ⟨c, hc, rfl⟩ := Option.map_eq_some_iff.mp hx
    obtain ⟨z, hz, rfl⟩ := Option.map_eq_some_iff.mp hy
    have sT := same_new nt (.tup [V.int c, V.int z])
    refine ⟨t, _, rfl, SqT.of upd_same, rfl, _, _, rfl, _, _, rfl, rfl, rfl, yes_ (iteT ?_)⟩
    refine ⟨_, rfl, _, rfl, _, rfl, _, _, rfl, rfl, hkb.mulOk (htb z (List.mem_of_getElem? hz)), _, _, rfl, rfl, ?_⟩
    refine lc_leaf nD (h.1.trans sT) (sT _ _ h.2) ?_ ?_
    · simp only [movI, List.length_map, List.length_take, List.length_zipWith]
      omega
    · have e : (movI xs ts k)[i]? = some (c + k * z) := by
        unfold movI
        rw [List.getElem?_zipWith, hc, hz]
      rw [List.take_add_one, e, List.map_append]
      rfl
  · have e : H1 D = some (.lst (((movI xs ts k).take (xs.map V.int).length).map V.int)) := h.2
    rw [List.take_of_length_le (by simp [movI]; omega)] at e
    refine ⟨D, _, rfl, .inl ⟨SqL.of e, fun p np => ?_⟩⟩
    exact q p _ (h.1.trans (same_new np _)) (h.1.free np) (SqT.of upd_same)
theorem cl__law_moved {X : Cx} {p pos : Pos} {e : Expr} {es : List Expr} {t : TA} (T : Txt K mg) (hr : Room 1 X.A) (ha : PA X (e :: es) t) (hg : Gl X "_law_moved" := by rfl)
    (he : starEach (e :: es) X.env = (false, eval e X.env) :: starEach es X.env := by rfl) (hpl : (backTo pos (starEach es X.env)).any (·.1) = false := by rfl) (hK : X.K = K := by rfl) (hmg : X.mg = mg := by rfl) :
    PE X (.Call (.Name "_law_moved" p) (e :: es) [] pos) (tCall (sp__law_moved K) [] E0 t) := by
  subst hK hmg
  exact pe_call (ok__law_moved T) hr hg T.m__law_moved T.F__law_moved.kp T.b__law_moved .nil pass0 ha (by decide) he hpl
/-! ### is_due -/
end
end KL
namespace KL
open PySem PySem.Spec PyProof.Rows L2 RZ StX SrtO Kw KM
section
variable {P : Program} {w : World} {K : PySem.W.Frag} {mg : Str → Option Value} {base : Heap}
def sp__law_is_due (K : PySem.W.Frag) : Sp := fun vs H Q _ => ∃ (a b : Addr) (pw : List (Nat × Nat)) (cs xs : List Int) (r : Int) (due : Bool), vs = [.ref a, .ref b, .bl due] ∧ SAt K H a (mOf pw) cs r ∧ SOk pw cs r ∧ SqT K H b (xs.map V.int) ∧ cs.length = xs.length ∧
  (∀ x ∈ xs, Bd 2000 x) ∧ due = decide ((dotI cs xs - r) % (mOf pw : Nat) = 0) ∧ ∀ H', Same H H' → Q (.bl true) H'
theorem ok__law_is_due (T : Txt K mg) : GFn P w K mg base 6 T.a__law_is_due T.d__law_is_due ["_law_stripe", "_law_cell", "_law_due"] (sp__law_is_due K) := by
  refine gfn_of T.F__law_is_due sc__law_is_due (fun vs H Q E h => ?_) (fun cdv A outer s H vs Q E hq hr h => ?_)
  · obtain ⟨a, b, pw, cs, xs, r, due, rfl, _⟩ := h
    rfl
  obtain ⟨a, b, pw, cs, xs, r, due, rfl, hA, hO, hb, hl, hxb, rfl, q⟩ := h
  refine ⟨_, pss_one (ps_ret (pe_cmpR op_eq (pe_callB (call_reprD hq hr.units) (by rfl) T.n_repr (by decide +kernel) (pa_cons (pe_tup (pa_cons (cl_is_on T (hr.mono (by decide)) (pa_cons (pv 0) (pa_cons (pv 1) pa_nil))) (pa_cons (pe_callN (gfn (ok_is_on T)) hq (hr.mono (by decide)) (by rfl) T.m_is_on T.F_is_on.kp T.kb_is_on_0_cell_stripe (pk_cons (pv 1) (pk_cons (pv 0) pk_nil))) pa_nil))) pa_nil)) (pe_callB (call_reprD hq hr.units) (by rfl) T.n_repr (by decide +kernel) (pa_cons (pe_tup (pa_cons (pv 2) (pa_cons (pv 2) pa_nil))) pa_nil)) (nomark _))), ?_⟩
  refine ⟨_, rfl, _, rfl, a, b, pw, cs, xs, r, rfl, hA, hO, hb, hl, hxb, fun H1 s1 => ?_⟩
  refine ⟨_, rfl, _, rfl, a, b, pw, cs, xs, r, rfl, hA.mono s1, hO, s1.sqt hb, hl, hxb, fun H2 s2 => ?_⟩
  generalize decide ((dotI cs xs - r) % ((mOf pw : Nat) : Int) = 0) = v
  refine ⟨(by show 2 ≤ sizeLine; decide), fun t nt => ?_⟩
  have d1 : Dp K (upd H2 t (.tup [.bl v, .bl v])) (.ref t) (.tuple [.bool v, .bool v]) := .tup (SqT.of upd_same) (.cons (.bl v) (.cons (.bl v) .nil))
  refine ⟨t, .tuple [.bool v, .bool v], rfl, d1, by cases v <;> rfl, by cases v <;> rfl, by cases v <;> decide +kernel, by cases v <;> decide +kernel, ?_⟩
  refine ⟨_, rfl, _, rfl, (by show 2 ≤ sizeLine; decide), fun t2 nt2 => ?_⟩
  have d2 : Dp K (upd (upd H2 t (.tup [.bl v, .bl v])) t2 (.tup [.bl v, .bl v])) (.ref t2) (.tuple [.bool v, .bool v]) := .tup (SqT.of upd_same) (.cons (.bl v) (.cons (.bl v) .nil))
  refine ⟨t2, .tuple [.bool v, .bool v], rfl, d2, by cases v <;> rfl, by cases v <;> rfl, by cases v <;> decide +kernel, by cases v <;> decide +kernel, rfl, ?_⟩
  have z := q _ (((s1.trans s2).trans (same_new nt (.tup [.bl v, .bl v]))).trans (same_new nt2 (.tup [.bl v, .bl v])))
  rw [← decide_eq_true (show V.str (PyData.tuple [.bool v, .bool v]).shown = V.str (PyData.tuple [.bool v, .bool v]).shown from rfl)] at z
  exact z
theorem cl__law_is_due {X : Cx} {p pos : Pos} {e : Expr} {es : List Expr} {t : TA} (T : Txt K mg) (hq : Quiet X.A) (hr : Room 6 X.A) (ha : PA X (e :: es) t) (hg : Gl X "_law_is_due" := by rfl)
    (he : starEach (e :: es) X.env = (false, eval e X.env) :: starEach es X.env := by rfl) (hpl : (backTo pos (starEach es X.env)).any (·.1) = false := by rfl) (hK : X.K = K := by rfl) (hmg : X.mg = mg := by rfl) :
    PE X (.Call (.Name "_law_is_due" p) (e :: es) [] pos) (tCall (sp__law_is_due K) [] E0 t) := by
  subst hK hmg
  exact pe_callG (ok__law_is_due T) hq hr hg T.m__law_is_due T.F__law_is_due.kp T.b__law_is_due .nil ha (by decide) he hpl
end
end KL
namespace KL
open PySem PySem.Spec PyProof.Rows L2 RZ StX SrtO Kw KM
abbrev qOf (x : Nat × Nat) : Nat := x.1 ^ x.2
/-- the list of pairs (prime, power) at a -/
structure PwAt (K : PySem.W.Frag) (H : Hp) (a : Addr) (pw : List (Nat × Nat)) : Prop where
  ex : ∃ as : List Addr, SqL K H a (as.map V.ref) ∧ as.length = pw.length ∧ ∀ (i : Nat) (t : Addr) (x : Nat × Nat), as[i]? = some t → pw[i]? = some x → SqT K H t [.int x.1, .int ((qOf x : Nat) : Int)]
theorem PwAt.stp {K : PySem.W.Frag} {d l a : Addr} {H H' : Hp} {pw : List (Nat × Nat)} (s : Stp d l H H') (n : a ≠ l) (h : PwAt K H a pw) : PwAt K H' a pw := by
  obtain ⟨as, h1, h2, h3⟩ := h.ex
  exact ⟨as, s.sqlO n h1, h2, fun i t x e1 e2 => s.sqt (h3 i t x e1 e2)⟩
theorem PwAt.same {K : PySem.W.Frag} {a : Addr} {H H' : Hp} {pw : List (Nat × Nat)} (s : Same H H') (h : PwAt K H a pw) : PwAt K H' a pw := by
  obtain ⟨as, h1, h2, h3⟩ := h.ex
  exact ⟨as, s.seq h1, h2, fun i t x e1 e2 => s.sqt (h3 i t x e1 e2)⟩
/-- what is drawn of periods: below 10 ^ 40 -/
structure PerD (pw : List (Nat × Nat)) : Prop where
  ok : Pw pw
  few : prodP pw ≤ 1000
  lt : mOf pw < 10 ^ 40
theorem PerD.per {pw : List (Nat × Nat)} (h : PerD pw) : Per pw := ⟨h.ok, h.few, Nat.lt_trans h.lt (by decide)⟩
theorem qOf_le {pw : List (Nat × Nat)} (h : Pw pw) {x : Nat × Nat} (hx : x ∈ pw) : 1 ≤ qOf x ∧ qOf x ≤ mOf pw := by
  have := mOf_pos h
  have d := part_dvd_mOf h hx
  have := PN_lt _ (h.mem hx)
  exact ⟨Nat.pow_pos (by omega), Nat.le_of_dvd (by omega) d⟩
/-- m // q is divisible by every other prime of m, not by the one of q -/
theorem cof_dvd {pw : List (Nat × Nat)} (h : Pw pw) {x y : Nat × Nat} (hx : x ∈ pw) (hy : y ∈ pw) : y.1 ∣ mOf pw / qOf x ↔ y.1 ≠ x.1 := by
  have hxP := h.mem hx
  have hyP := h.mem hy
  have qx := qOf_le h hx
  have d := part_dvd_mOf h hx
  have e : mOf pw = qOf x * (mOf pw / qOf x) := (Nat.mul_div_cancel' d).symm
  constructor
  · intro dv ex
    -- then a higher power of the prime would divide
    have d2 : x.1 ^ (x.2 + 1) ∣ mOf pw := by
      rw [e, Nat.pow_succ]
      rw [ex] at dv
      exact Nat.mul_dvd_mul (Nat.dvd_refl _) dv
    clear e dv ex
    revert d2
    clear d qx hyP hy
    induction pw with
    | nil => cases hx
    | cons z r ih =>
      intro d2
      rcases List.mem_cons.mp hx with rfl | hx'
      · have := PN_lt _ hxP
        rw [Nat.pow_succ] at d2
        have d3 : x.1 ∣ mOf r := Nat.dvd_of_mul_dvd_mul_left (Nat.pow_pos (by omega)) (show x.1 ^ x.2 * x.1 ∣ x.1 ^ x.2 * mOf r from d2)
        exact (List.nodup_cons.mp h.nodup).1 ((dvd_mOf hxP h.tail).mp d3)
      · refine ih h.tail hx' ?_
        have c : Nat.Coprime (x.1 ^ (x.2 + 1)) (z.1 ^ z.2) := by
          refine cop_pow (Nat.Coprime.symm (cop_pow (cop_of (h.mem List.mem_cons_self) fun dd => ?_) _)) _
          have ez := eq_of_dvd (h.mem List.mem_cons_self) hxP dd
          exact (List.nodup_cons.mp h.nodup).1 (by show z.1 ∈ r.map (fun y => y.1); rw [ez]; exact List.mem_map_of_mem (f := fun y : Nat × Nat => y.1) hx')
        exact c.dvd_of_dvd_mul_left (show _ ∣ z.1 ^ z.2 * mOf r from d2)
  · intro ne
    have dm : y.1 ∣ mOf pw := (dvd_mOf hyP h).mpr (List.mem_map_of_mem hy)
    rw [e] at dm
    rcases dvd_mul_of hyP dm with q | q
    · exact absurd (eq_of_dvd hyP hxP (dvd_pow_of hyP q)) ne
    · exact q
section
variable {P : Program} {w : World} {K : PySem.W.Frag} {mg : Str → Option Value} {base : Heap}
theorem pairs_at {as : List Addr} {pw : List (Nat × Nat)} {i : Nat} {v : V} (hl : as.length = pw.length) (h : (as.map V.ref)[i]? = some v) : ∃ t x, as[i]? = some t ∧ pw[i]? = some x ∧ v = .ref t ∧ i < pw.length := by
  rw [List.getElem?_map] at h
  obtain ⟨t, ht, rfl⟩ := Option.map_eq_some_iff.mp h
  have hi := (List.getElem?_eq_some_iff.mp ht).1
  exact ⟨t, pw[i]'(hl ▸ hi), ht, List.getElem?_eq_getElem (hl ▸ hi), rfl, hl ▸ hi⟩
/-! ### unit -/
def sp__law_unit (K : PySem.W.Frag) : Sp := fun vs H Q _ => ∃ (d l a : Addr) (pw : List (Nat × Nat)), vs = [.ref d, .ref a, .int ((mOf pw : Nat) : Int)] ∧ DeckAt H d l ∧ PerD pw ∧ PwAt K H a pw ∧ a ≠ l ∧
  ∀ (u : Nat) (H' : Hp), (∀ x ∈ pw, ¬ x.1 ∣ u) → Bd 200 (u : Int) → Stp d l H H' → Q (.int (u : Int)) H'
theorem mulB {n u B C : Nat} (h : u < (n + 1) * B) (hn : n ≤ 10) (hB : 11 * B < C) : u < C :=
  Nat.lt_of_lt_of_le h (Nat.le_trans (Nat.mul_le_mul_right B (show n + 1 ≤ 11 by omega)) (Nat.le_of_lt hB))
theorem pw_len {pw : List (Nat × Nat)} (h : Pw pw) : pw.length ≤ 10 := by
  have := h.sub.length_le
  simpa [PN] using this
theorem ok__law_unit (T : Txt K mg) : FnOk P w K mg base CX0 3 T.a__law_unit T.d__law_unit ["_law_deck_here", "_law_powers_here", "_law_m"] (sp__law_unit K) := by
  refine T.F__law_unit.ok sc__law_unit (fun vs H Q E h => ?_) (fun cdv A outer s H vs Q E hr h => ?_)
  · obtain ⟨d, l, a, pw, rfl, _⟩ := h
    rfl
  obtain ⟨d, l, a, pw, rfl, hD, hP, hA, hal, q⟩ := h
  refine ⟨_, pss_cons (ps_set (i := 3) sc__law_unit.nd rfl (Or.inl rfl) (cl__law_great T (hr.mono (by decide)) (pa_cons (pv 0) (pa_cons (pv 2) pa_nil))))
    (pss_cons (ps_for PassesOwn.never rfl (pi_list (pv 1)) (pg_tup (by rfl) (pgs_cons (pg_name (i := 4) sc__law_unit.nd rfl (Or.inl rfl)) (pgs_cons (pg_name (i := 5) sc__law_unit.nd rfl (Or.inl rfl)) pgs_nil))) (pss_one (ps_if (pt_cmpR op_eq (pe_op op_mod (pe_callTy call_int1 (by rfl) T.n_int (by decide +kernel) (pa_cons (pv 3) pa_nil)) (pv 4)) pe_int (nomark _)) (pss_one (ps_set (i := 3) sc__law_unit.nd rfl (Or.inl rfl) (pe_op op_add (pv 3) (pe_op op_fdivW (pv 2) (pv 5))))) pss_nil)))
    (pss_one (ps_ret (pv 3)))), ?_⟩
  have hm := mOf_pos hP.ok
  have hlt := hP.lt
  have bm : Bd 133 ((mOf pw : Nat) : Int) := by
    unfold Bd
    have : (10 : Nat) ^ 40 < 2 ^ 133 := by decide
    omega
  refine ⟨_, rfl, _, rfl, d, l, _, rfl, hD, by omega, bm.mono (by decide), fun v H1 v0 v1 st1 => ?_⟩
  obtain ⟨as, ha, hl, hi⟩ := (hA.stp st1 hal).ex
  have v' : ∃ n : Nat, v = (n : Int) ∧ n < mOf pw := ⟨v.toNat, by omega, by omega⟩
  obtain ⟨n, rfl, hn⟩ := v'
  refine ⟨_, rfl, a, rfl, ⟨_, ha⟩, for_list (xs := as.map V.ref) (fun i σ H' => ∃ (u : Nat) (y z : Option V), σ = [some (.ref d), some (.ref a), some (.int ((mOf pw : Nat) : Int)), some (.int (u : Int)), y, z] ∧ H1 = H' ∧ u < (i + 1) * 10 ^ 40 ∧ ∀ (j : Nat) (x : Nat × Nat), j < i → pw[j]? = some x → ¬ x.1 ∣ u) ⟨n, none, none, rfl, rfl, by omega, fun _ _ h => absurd h (Nat.not_lt_zero _)⟩ ?_ ?_ ?_⟩
  · rintro i σ H' _ ⟨u, y, z, rfl, rfl, _⟩
    exact ha
  · rintro i v σ H' hx ⟨u, y, z, rfl, rfl, hu, hok⟩
    obtain ⟨t, x, ht, hxp, rfl, hilt⟩ := pairs_at hl hx
    have tup := hi i t x ht hxp
    have hmem := List.mem_of_getElem? hxp
    have hxP := hP.ok.mem hmem
    have x2 := PN_lt _ hxP
    have qx := qOf_le hP.ok hmem
    refine ⟨t, _, rfl, tup, rfl, _, _, rfl, _, _, rfl, rfl, ?_⟩
    refine ⟨_, rfl, .inl ⟨_, rfl, _, rfl, _, _, rfl, rfl, (show (0 : Int) < (x.1 : Nat) by omega), rfl, _, rfl, ite2 (fun c => ?_) (fun c => ?_)⟩⟩
    · have c : (u : Int) % (x.1 : Nat) = 0 := V.int.inj (of_decide_eq_true c)
      have dx : x.1 ∣ u := Nat.dvd_of_mod_eq_zero (by omega)
      refine ⟨_, rfl, _, rfl, _, rfl, _, _, rfl, rfl, Bd.divOk (b := 133) (by omega) (by unfold Bd at *; omega) (by decide) _, _, _, rfl, rfl, ?_⟩
      refine ⟨u + mOf pw / qOf x, some (.int (x.1 : Int)), some (.int ((qOf x : Nat) : Int)), ?_, rfl, ?_, ?_⟩
      · rw [Int.natCast_add, Int.natCast_ediv]
        rfl
      · have := Nat.div_le_self (mOf pw) (qOf x)
        rw [Nat.add_mul (i + 1) 1]
        omega
      · intro j y hj hy dv
        have hym := List.mem_of_getElem? hy
        by_cases e : y.1 = x.1
        · have := (Nat.dvd_add_right (e ▸ dx)).mp dv
          exact (cof_dvd hP.ok hmem hym).mp this e
        · have dc := (cof_dvd hP.ok hmem hym).mpr e
          have du : y.1 ∣ u := (Nat.dvd_add_left dc).mp dv
          have hji : j ≠ i := by
            rintro rfl
            rw [hxp] at hy
            exact e (by cases hy; rfl)
          exact hok j y (by omega) hy du
    · have c : ¬ (u : Int) % (x.1 : Nat) = 0 := fun z => c (decide_eq_true (congrArg V.int z))
      refine ⟨u, _, _, rfl, rfl, Nat.lt_of_lt_of_le hu (Nat.mul_le_mul_right _ (Nat.le_succ _)), fun j y hj hy dv => ?_⟩
      by_cases e : j = i
      · subst e
        rw [hxp] at hy
        cases hy
        have := Nat.mod_eq_zero_of_dvd dv
        omega
      · exact hok j y (by omega) hy dv
  · rintro σ H' ⟨u, y, z, rfl, rfl, hu, hok⟩
    rw [List.length_map, hl] at hu hok
    have pl := pw_len hP.ok
    refine ⟨_, rfl, q u H1 (fun x hx dv => ?_) ?_ st1⟩
    · obtain ⟨j, hj, e⟩ := List.mem_iff_getElem.mp hx
      exact hok j x hj (by rw [← e]; exact List.getElem?_eq_getElem hj) dv
    · unfold Bd
      exact mulB (B := 10 ^ 40) (C := 2 ^ 200) hu pl (by decide)
theorem cl__law_unit {X : Cx} {p pos : Pos} {e : Expr} {es : List Expr} {t : TA} (T : Txt K mg) (hr : Room 3 X.A) (ha : PA X (e :: es) t) (hg : Gl X "_law_unit" := by rfl)
    (he : starEach (e :: es) X.env = (false, eval e X.env) :: starEach es X.env := by rfl) (hpl : (backTo pos (starEach es X.env)).any (·.1) = false := by rfl) (hK : X.K = K := by rfl) (hmg : X.mg = mg := by rfl) :
    PE X (.Call (.Name "_law_unit" p) (e :: es) [] pos) (tCall (sp__law_unit K) [] E0 t) := by
  subst hK hmg
  exact pe_call (ok__law_unit T) hr hg T.m__law_unit T.F__law_unit.kp T.b__law_unit .nil pass0 ha (by decide) he hpl
end
end KL
namespace KL
open PySem PySem.Spec PyProof.Rows L2 RZ StX SrtO Kw KM
theorem Stp.upd {d l a : Addr} {H H' : Hp} {o : HO} (s : Stp d l H H') (n : H a = none) : Stp d l H (L2.upd H' a o) := by
  have n1 := s.pre.offd n
  have n2 := s.pre.off n
  refine ⟨s.pre, ?_, fun b u h1 h2 e => ?_⟩
  · obtain ⟨m, k, cs, e1, e2, e3⟩ := s.post.ex
    exact ⟨m, k, cs, by rw [upd_ne n1.symm]; exact e1, by rw [upd_ne n2.symm]; exact e2, e3⟩
  · rw [upd_ne (ne_of_none e n)]
    exact s.kp b u h1 h2 e
theorem Stp.same {d l : Addr} {H H1 H2 : Hp} (s : Stp d l H H1) (e : Same H1 H2) : Stp d l H H2 := s.trans (s.post.stp e)
/-- new behind a step: not there ahead of it -/
theorem Stp.free {d l a : Addr} {H H' : Hp} (s : Stp d l H H') (n : H' a = none) : H a = none := by
  have n1 := s.post.offd n
  have n2 := s.post.off n
  cases e : H a with
  | none => rfl
  | some o =>
    have := s.kp a o n1 n2 e
    rw [this] at n
    cases n
theorem prodI_cons (n : Nat) (ns : List Nat) : prodI (n :: ns) = n * prodI ns := by
  unfold prodI
  have : ∀ (ns : List Nat) (a b : Nat), ns.foldl (fun a b => a * b) (a * b) = a * ns.foldl (fun a b => a * b) b := by
    intro ns
    induction ns with
    | nil => intro a b; rfl
    | cons x r ih => intro a b; simp only [List.foldl_cons]; rw [Nat.mul_assoc, ih]
  have h := this ns n 1
  simpa using h
theorem prodI_sub : ∀ {pw : List (Nat × Nat)}, Pw pw → ∀ {ns : List Nat}, ns.Sublist (pw.map qOf) → (∀ n ∈ ns, 1 ≤ n) ∧ prodI ns ≤ mOf pw
  | [], _, ns, h => by
    obtain rfl : ns = [] := List.eq_nil_of_sublist_nil h
    exact ⟨fun n hn => absurd hn List.not_mem_nil, Nat.le_refl 1⟩
  | x :: r, hw, ns, h => by
    have q1 := (qOf_le hw List.mem_cons_self).1
    have m1 := mOf_pos hw.tail
    rw [List.map_cons] at h
    cases h with
    | cons _ h =>
      have ih := prodI_sub hw.tail h
      exact ⟨ih.1, Nat.le_trans ih.2 (Nat.le_mul_of_pos_left _ q1)⟩
    | cons_cons _ h =>
      have ih := prodI_sub hw.tail h
      refine ⟨fun n hn => ?_, ?_⟩
      · rcases List.mem_cons.mp hn with rfl | hn
        · exact q1
        · exact ih.1 n hn
      · rw [prodI_cons]
        exact Nat.mul_le_mul_left _ ih.2
end KL
namespace KL
open PySem PySem.Spec PyProof.Rows L2 RZ StX SrtO Kw KM
section
variable {P : Program} {w : World} {K : PySem.W.Frag} {mg : Str → Option Value} {base : Heap}
def sp__law_step (K : PySem.W.Frag) : Sp := fun vs H Q _ => ∃ (d l a : Addr) (pw : List (Nat × Nat)) (dd : Nat), vs = [.ref d, .ref a, .int dd] ∧ DeckAt H d l ∧ PerD pw ∧ PwAt K H a pw ∧ a ≠ l ∧ dd ≤ 3 ∧
  ∀ (p : Addr) (ts : List Int) (H' : Hp), Stp d l H H' → SqT K H' p (ts.map V.int) → ts.length = dd → (∀ t ∈ ts, Bd 200 t) → Q (.ref p) H'
theorem ok__law_step (T : Txt K mg) : FnOk P w K mg base CX0 4 T.a__law_step T.d__law_step ["_law_deck_here", "_law_powers_here", "_law_d"] (sp__law_step K) := by
  refine T.F__law_step.ok sc__law_step (fun vs H Q E h => ?_) (fun cdv A outer s H vs Q E hr h => ?_)
  · obtain ⟨d, l, a, pw, dd, rfl, _⟩ := h
    rfl
  obtain ⟨d, l, a, pw, dd, rfl, hD, hP, hA, hal, h3, q⟩ := h
  refine ⟨_, pss_cons (ps_set (i := 3) sc__law_step.nd rfl (Or.inr rfl) (cl__law_product T (hr.mono (by decide)) (pa_cons (pe_lc (own := [("_law_p", 4), ("_law_q", 5)]) (g := gTup K 2 (gCons (gName 4) (gCons (gName 5) gNil))) rfl sc__law_step.nd (pi_list (pv 1)) (blkOk_by (N := N__law_step) (sc := defScope s__law_step) (by decide +kernel)) (fun _ _ _ _ _ => (pg_tup (by rfl) (pgs_cons (pg_name (i := 4) sc__law_step.nd rfl (Or.inl rfl)) (pgs_cons (pg_name (i := 5) sc__law_step.nd rfl (Or.inl rfl)) pgs_nil)))) (fun _ _ _ _ _ => (pts_one (pt_cmpR op_eq (cl__law_draw T (hr.mono (by decide)) (pa_cons (pv 0) (pa_cons pe_int pa_nil))) pe_int (nomark _)))) (fun _ _ _ _ _ => (pv 5))) pa_nil)))
    (pss_one (ps_ret (pe_callTy call_tuple_of (by rfl) T.n_tuple (by decide +kernel) (pa_cons (pe_lc (own := [("_law_at", 6)]) rfl sc__law_step.nd (pi_range1 (by rfl) T.n_range (pa_cons (pv 2) pa_nil)) (blkOk_by (N := N__law_step) (sc := defScope s__law_step) (by decide +kernel)) (fun _ _ _ _ _ => (pg_name (i := 6) sc__law_step.nd rfl (Or.inl rfl))) (fun _ _ _ _ _ => pts_nil) (fun _ _ _ _ _ => (pe_op op_mulW (cl__law_signed T (hr.mono (by decide)) (pa_cons (pv 0) (pa_cons (pe_op op_pow pe_int pe_int) pa_nil))) (pv 3)))) pa_nil)))), ?_⟩
  obtain ⟨as, ha, hl, hi⟩ := hA.ex
  have small : ∀ n : Nat, n < 100 → Bd 2000 (n : Int) := fun n h => bdN (n := n) (by omega) (by omega) (Nat.lt_of_lt_of_le h (by decide))
  refine ⟨_, rfl, a, rfl, ⟨_, ha⟩, fun D nD => lc_list (xs := as.map V.ref) (fun i H' => Stp d l H H' ∧ ∃ ns : List Nat, ns.Sublist ((pw.map qOf).take i) ∧ H' D = some (.lst ((intsN ns).map V.int))) ⟨hD.refl.upd nD, [], List.nil_sublist _, upd_same⟩ (fun i H' _ h => h.1.sqlO hal ha) (fun i v H' hx h => ?_) (fun H' h => ?_)⟩
  · obtain ⟨st, ns, hsub, hns⟩ := h
    obtain ⟨t, x, ht, hxp, rfl, hilt⟩ := pairs_at hl hx
    have tup := st.sqt (hi i t x ht hxp)
    have hq : (pw.map qOf)[i]? = some (qOf x) := by rw [List.getElem?_map, hxp]; rfl
    refine ⟨t, _, rfl, tup, rfl, _, _, rfl, _, _, rfl, rfl, rfl, ?_⟩
    refine ⟨_, rfl, d, l, 3, rfl, st.post, by decide, small 3 (by decide), fun v H2 v0 v1 st2 => ?_⟩
    have nDl : D ≠ l := hD.off nD
    have hns2 := st2.lst nDl hns
    have stt := st.trans st2
    refine ⟨rfl, _, rfl, ite2 (fun _ => ?_) (fun _ => ?_)⟩
    · refine ⟨_, rfl, _, hns2, ?_, stt.upd nD, ns ++ [qOf x], ?_, ?_⟩
      · have := hsub.length_le
        have := pw_len hP.ok
        simp only [List.length_map, List.length_take] at *
        exact Nat.lt_of_le_of_lt (show ns.length ≤ 10 by omega) (by decide)
      · rw [List.take_add_one, hq]
        exact hsub.append (List.Sublist.refl _)
      · rw [upd_same]
        simp [intsN]
    · refine ⟨stt, ns, ?_, hns2⟩
      rw [List.take_add_one]
      exact hsub.trans (List.sublist_append_left _ _)
  · obtain ⟨st, ns, hsub, hns⟩ := h
    have hsub' : ns.Sublist (pw.map qOf) := hsub.trans (List.take_sublist _ _)
    obtain ⟨n1, nle⟩ := prodI_sub hP.ok hsub'
    have hlt := hP.lt
    refine ⟨D, ns, rfl, SqL.of hns, n1, Nat.lt_of_le_of_lt nle (Nat.lt_trans hlt (by decide)), ?_⟩
    have bS : Bd 133 ((prodI ns : Nat) : Int) := by
      unfold Bd
      have : (10 : Nat) ^ 40 < 2 ^ 133 := by decide
      omega
    generalize prodI ns = S at bS
    clear hns hsub hsub' n1 nle
    refine ⟨_, rfl, dd, rfl, (by omega), (by omega), fun D2 nD2 => lc_range (lo := 0) (n := ((dd : Nat) : Int).toNat) (fun i H2 => Stp d l H H2 ∧ ∃ ts : List Int, ts.length = i ∧ (∀ t ∈ ts, Bd 200 t) ∧ H2 D2 = some (.lst (ts.map V.int))) ⟨st.upd (st.free nD2), [], rfl, (fun _ h => by cases h), upd_same⟩ (fun i H2 hi2 h => ?_) (fun H2 h => ?_)⟩
    · obtain ⟨st2, ts, tl, tb, te⟩ := h
      have nf := st.free nD2
      refine ⟨rfl, yes_ (iteT ?_)⟩
      refine ⟨_, rfl, _, _, rfl, rfl, ⟨by decide, by decide, by decide⟩, d, l, _, rfl, st2.post, by decide, Bd.mono (a := 34) (by unfold Bd; decide) (by decide), fun v H3 v0 v1 st3 => ?_⟩
      have bv : Bd 34 v := by
        have e : (10 : Int) ^ (10 : Int).toNat = 10000000000 := by decide
        rw [e] at v0 v1
        unfold Bd
        omega
      refine ⟨_, rfl, _, _, rfl, rfl, bv.mulOk bS, _, st3.lst (hD.off nf) te, ?_, (st2.trans st3).upd nf, ts ++ [v * S], ?_, ?_, ?_⟩
      · rw [List.length_map, tl]
        exact Nat.lt_of_lt_of_le (show i < 4 by omega) (by decide)
      · rw [List.length_append, tl]
        rfl
      · intro t ht
        rcases List.mem_append.mp ht with k | k
        · exact tb t k
        · rw [List.mem_singleton.mp k]
          exact (bv.mul bS).mono (by decide)
      · rw [upd_same, List.map_append]
        rfl
    · obtain ⟨st2, ts, tl, tb, te⟩ := h
      refine ⟨D2, _, rfl, .inl ⟨SqL.of te, fun p np => ?_⟩⟩
      exact q p ts _ (st2.same (same_new np _)) (SqT.of upd_same) (by rw [tl]; omega) tb
theorem cl__law_step {X : Cx} {p pos : Pos} {e : Expr} {es : List Expr} {t : TA} (T : Txt K mg) (hr : Room 4 X.A) (ha : PA X (e :: es) t) (hg : Gl X "_law_step" := by rfl)
    (he : starEach (e :: es) X.env = (false, eval e X.env) :: starEach es X.env := by rfl) (hpl : (backTo pos (starEach es X.env)).any (·.1) = false := by rfl) (hK : X.K = K := by rfl) (hmg : X.mg = mg := by rfl) :
    PE X (.Call (.Name "_law_step" p) (e :: es) [] pos) (tCall (sp__law_step K) [] E0 t) := by
  subst hK hmg
  exact pe_call (ok__law_step T) hr hg T.m__law_step T.F__law_step.kp T.b__law_step .nil pass0 ha (by decide) he hpl
end
end KL
namespace KL
open PySem PySem.Spec PyProof.Rows L2 RZ StX SrtO Kw KM
theorem eqv_nil (cs : List Int) : PyData.eqv (.list (cs.map PyData.int)) (.list []) = decide (cs = []) := by
  cases cs <;> rfl
theorem set_intsN (cs : List Nat) (k v : Nat) : ((intsN cs).map V.int).set k (.int (v : Int)) = (intsN (cs.set k v)).map V.int := by
  unfold intsN
  rw [List.map_set, List.map_set]
/-- one number mended at one prime -/
theorem mend {pw : List (Nat × Nat)} (hw : Pw pw) {x : Nat × Nat} (hx : x ∈ pw) {cs : List Nat} (all : ∀ c ∈ cs, x.1 ∣ c) {k : Nat} (hk : k < cs.length) :
    (¬ x.1 ∣ (cs[k] + mOf pw / qOf x) % mOf pw) ∧ ∀ y ∈ pw, y.1 ≠ x.1 → ¬ y.1 ∣ cs[k] → ¬ y.1 ∣ (cs[k] + mOf pw / qOf x) % mOf pw := by
  have md : ∀ y ∈ pw, ∀ n : Nat, y.1 ∣ n % mOf pw ↔ y.1 ∣ n := fun y hy n => Nat.dvd_mod_iff ((dvd_mOf (hw.mem hy) hw).mpr (List.mem_map_of_mem hy))
  constructor
  · rw [md x hx]
    intro d
    have d2 := (Nat.dvd_add_right (all _ (List.getElem_mem hk))).mp d
    exact (cof_dvd hw hx hx).mp d2 rfl
  · intro y hy ne nd
    rw [md y hy]
    intro d
    exact nd ((Nat.dvd_add_left ((cof_dvd hw hx hy).mpr ne)).mp d)
section
variable {P : Program} {w : World} {K : PySem.W.Frag} {mg : Str → Option Value} {base : Heap}
def sp__law_numbers (K : PySem.W.Frag) : Sp := fun vs H Q _ => ∃ (d l a : Addr) (pw : List (Nat × Nat)) (dd : Nat), vs = [.ref d, .ref a, .int ((mOf pw : Nat) : Int), .int dd] ∧ DeckAt H d l ∧ PerD pw ∧ PwAt K H a pw ∧ a ≠ l ∧ 1 ≤ dd ∧ dd ≤ 3 ∧
  ∀ (p : Addr) (cs : List Nat) (H' : Hp), Stp d l H H' → SqT K H' p ((intsN cs).map V.int) → cs.length = dd → (∀ c ∈ cs, c < mOf pw) → (∀ x ∈ pw, ∃ c ∈ cs, ¬ x.1 ∣ c) → Q (.ref p) H'
theorem lt_shift {a b n i : Nat} (ha : a < 2 ^ (134 * i)) (hb : b < 2 ^ 134) (e : n = i + 1) : a * b < 2 ^ (134 * n) := by
  subst e
  rw [Nat.mul_add, Nat.mul_one, Nat.pow_add]
  exact Nat.mul_lt_mul'' ha hb
theorem ok__law_numbers (T : Txt K mg) : FnOk P w K mg base CX0 3 T.a__law_numbers T.d__law_numbers ["_law_deck_here", "_law_powers_here", "_law_m", "_law_d"] (sp__law_numbers K) := by
  refine T.F__law_numbers.ok sc__law_numbers (fun vs H Q E h => ?_) (fun cdv A outer s H vs Q E hr h => ?_)
  · obtain ⟨d, l, a, pw, dd, rfl, _⟩ := h
    rfl
  obtain ⟨d, l, a, pw, dd, rfl, hD, hP, hA, hal, h1, h3, q⟩ := h
  refine ⟨_, pss_cons (ps_set (i := 4) sc__law_numbers.nd rfl (Or.inl rfl) (pe_lst pa_nil))
    (Evl.pss_cut (ps_for PassesOwn.never rfl (pi_range1 (by rfl) T.n_range (pa_cons (pv 3) pa_nil)) (pg_name (i := 5) sc__law_numbers.nd rfl (Or.inl rfl)) (pss_cons (ps_par (i := 6) (j := 7) (by rfl) sc__law_numbers.nd rfl rfl (by decide) rfl rfl (pa_cons (cl__law_draw T (hr.mono (by decide)) (pa_cons (pv 0) (pa_cons pe_int pa_nil))) (pa_cons (cl__law_great T (hr.mono (by decide)) (pa_cons (pv 0) (pa_cons (pv 2) pa_nil))) pa_nil)) (by rfl))
        (Evl.pss_cut (ps_for PassesOwn.never rfl (pi_list (pv 1)) (pg_tup (by rfl) (pgs_cons (pg_name (i := 8) sc__law_numbers.nd rfl (Or.inr rfl)) (pgs_cons (pg_name (i := 9) sc__law_numbers.nd rfl (Or.inl rfl)) pgs_nil))) (pss_one (ps_if (PW.pt (pw_and (pt_cmpR op_gt (pv 6) pe_int (nomark _)) (pw_and1 (pt_cmpR op_eq (cl__law_draw T (hr.mono (by decide)) (pa_cons (pv 0) (pa_cons pe_int pa_nil))) pe_int (nomark _))))) (pss_one (ps_set (i := 7) sc__law_numbers.nd rfl (Or.inl rfl) (pe_op op_mulW (pv 7) (cl__law_pick T (hr.mono (by decide)) (pa_cons (pv 0) (pa_cons (pe_lst (pa_cons (pv 8) (pa_cons (pe_op op_mul (pv 8) (pv 8)) (pa_cons (pe_op op_fdivW (pv 9) (pv 8)) (pa_cons (pv 9) pa_nil))))) pa_nil)))))) pss_nil)))
        (pss_one (ps_expr (pe_bm PySem.F.plainAttrs_list PySem.F.slot_list_append PySem.F.type_list_append mt_append (pv 4) (pa_cons (pe_op op_mod (pe_callTy call_int1 (by rfl) T.n_int (by decide +kernel) (pa_cons (pe_ifExp (pt_cmpR op_eq (pv 6) pe_int (nomark _)) pe_int (pv 7)) pa_nil)) (pv 2)) pa_nil)))))))
    (Evl.pss_cut (ps_for PassesOwn.never rfl (pi_list (pv 1)) (pg_tup (by rfl) (pgs_cons (pg_name (i := 8) sc__law_numbers.nd rfl (Or.inr rfl)) (pgs_cons (pg_name (i := 9) sc__law_numbers.nd rfl (Or.inl rfl)) pgs_nil))) (pss_one (ps_if (pt_cmpR (op_eqD hr.units) (pe_lc (own := [("_law_x", 10)]) rfl sc__law_numbers.nd (pi_list (pv 4)) (blkOk_by (N := N__law_numbers) (sc := defScope s__law_numbers) (by decide +kernel)) (fun _ _ _ _ _ => (pg_name (i := 10) sc__law_numbers.nd rfl (Or.inl rfl))) (fun _ _ _ _ _ => (pts_one (pt_cmpR op_gt (pe_op op_mod (pe_callTy call_int1 (by rfl) T.n_int (by decide +kernel) (pa_cons (pv 10) pa_nil)) (pv 8)) pe_int (nomark _)))) (fun _ _ _ _ _ => (pv 10))) (pe_lst pa_nil) (nomark _)) (pss_cons (ps_set (i := 5) sc__law_numbers.nd rfl (Or.inl rfl) (cl__law_draw T (hr.mono (by decide)) (pa_cons (pv 0) (pa_cons (pv 3) pa_nil))))
            (pss_one (ps_asg (pe_op op_mod (pe_callTy call_int1 (by rfl) T.n_int (by decide +kernel) (pa_cons (pe_op op_add (pe_ix ix_list (pv 4) (pv 5) (fun _ _ => rfl)) (pe_op op_fdivW (pv 2) (pv 9))) pa_nil)) (pv 2)) (pg_sub (pv 4) (pv 5) set_list)))) pss_nil)))
    (pss_one (ps_ret (pe_callTy call_tuple_of (by rfl) T.n_tuple (by decide +kernel) (pa_cons (pv 4) pa_nil)))))), ?_⟩
  have hm := mOf_pos hP.ok
  have hlt := hP.lt
  have bm : Bd 133 ((mOf pw : Nat) : Int) := by
    unfold Bd
    have : (10 : Nat) ^ 40 < 2 ^ 133 := by decide
    omega
  have hlen := pw_len hP.ok
  have small : ∀ n : Nat, n < 100 → Bd 2000 (n : Int) := fun n h => bdN (n := n) (by omega) (by omega) (Nat.lt_of_lt_of_le h (by decide))
  obtain ⟨as, ha, hl, hi⟩ := hA.ex
  refine ⟨Nat.zero_le _, fun fo nfo => ?_⟩
  have nfl := hD.off nfo
  refine ⟨fun σ H' => ∃ (cs : List Nat) (x5 x6 x7 x8 x9 : Option V), σ = [some (.ref d), some (.ref a), some (.int ((mOf pw : Nat) : Int)), some (.int (dd : Int)), some (.ref fo), x5, x6, x7, x8, x9, none] ∧ Stp d l H H' ∧ H' fo = some (.lst ((intsN cs).map V.int)) ∧ cs.length = dd ∧ ∀ c ∈ cs, c < mOf pw, ?_, ?_⟩
  · -- the numbers are drawn
    refine ⟨_, rfl, dd, rfl, by omega, by omega, for_range (lo := 0) (n := ((dd : Nat) : Int).toNat) (fun i σ H' => ∃ (cs : List Nat) (x5 x6 x7 x8 x9 : Option V), σ = [some (.ref d), some (.ref a), some (.int ((mOf pw : Nat) : Int)), some (.int (dd : Int)), some (.ref fo), x5, x6, x7, x8, x9, none] ∧ Stp d l H H' ∧ H' fo = some (.lst ((intsN cs).map V.int)) ∧ cs.length = i ∧ ∀ c ∈ cs, c < mOf pw) ⟨[], none, none, none, none, none, rfl, hD.refl.upd nfo, upd_same, rfl, fun _ h => absurd h List.not_mem_nil⟩ ?_ ?_⟩
    · rintro i σ H' hi' ⟨cs, x5, x6, x7, x8, x9, rfl, st, ef, el, hc⟩
      refine ⟨_, rfl, d, l, 6, rfl, st.post, by decide, small 6 (by decide), fun way H1 w0 w1 st1 => ?_⟩
      refine ⟨_, rfl, _, rfl, d, l, _, rfl, st1.post, by omega, bm.mono (by decide), fun num H2 n0 n1 st2 => ?_⟩
      obtain ⟨num, rfl⟩ : ∃ n : Nat, num = (n : Int) := ⟨num.toNat, by omega⟩
      refine ⟨_, _, rfl, ?_⟩
      have st12 := (st.trans st1).trans st2
      have ef2 := st2.lst nfl (st1.lst nfl ef)
      refine ⟨fun σ H3 => ∃ (num : Nat) (x8 x9 : Option V), σ = [some (.ref d), some (.ref a), some (.int ((mOf pw : Nat) : Int)), some (.int (dd : Int)), some (.ref fo), some (.int (0 + (i : Int))), some (.int way), some (.int (num : Int)), x8, x9, none] ∧ Stp d l H H3 ∧ H3 fo = some (.lst ((intsN cs).map V.int)), ?_, ?_⟩
      · refine ⟨_, rfl, a, rfl, ⟨_, st12.sqlO hal ha⟩, for_list (xs := as.map V.ref) (fun j σ H3 => ∃ (num : Nat) (x8 x9 : Option V), σ = [some (.ref d), some (.ref a), some (.int ((mOf pw : Nat) : Int)), some (.int (dd : Int)), some (.ref fo), some (.int (0 + (i : Int))), some (.int way), some (.int (num : Int)), x8, x9, none] ∧ Stp d l H H3 ∧ H3 fo = some (.lst ((intsN cs).map V.int)) ∧ num < 2 ^ (134 * (j + 1))) ⟨num, x8, x9, rfl, st12, ef2, ?_⟩ ?_ ?_ ?_⟩
        · have : (2 : Nat) ^ 133 < 2 ^ (134 * (0 + 1)) := by decide
          unfold Bd at bm
          omega
        · rintro j σ H3 _ ⟨_, _, _, rfl, st3, _⟩
          exact st3.sqlO hal ha
        · rintro j v σ H3 hx ⟨num, x8, x9, rfl, st3, ef3, hnum⟩
          obtain ⟨t, x, ht, hxp, rfl, hj⟩ := pairs_at hl hx
          have hmem := List.mem_of_getElem? hxp
          have x2 := PN_lt _ (hP.ok.mem hmem)
          have qx := qOf_le hP.ok hmem
          have qb : qOf x < 2 ^ 133 := by unfold Bd at bm; omega
          have stay : num < 2 ^ (134 * (j + 1 + 1)) := Nat.lt_of_lt_of_le hnum (Nat.pow_le_pow_right (by decide) (by omega))
          refine ⟨t, _, rfl, st3.sqt (hi j t x ht hxp), rfl, _, _, rfl, _, _, rfl, rfl, ?_⟩
          refine ⟨_, rfl, _, _, rfl, rfl, _, rfl, ite2 (fun _ => ?_) (fun c => ?_)⟩
          · refine ⟨_, rfl, d, l, 3, rfl, st3.post, by decide, small 3 (by decide), fun v H4 v0 v1 st4 => ?_⟩
            have ef4 := st4.lst nfl ef3
            have st34 := st3.trans st4
            refine ⟨rfl, _, rfl, ite2 (fun _ => ?_) (fun _ => ?_)⟩
            · refine ⟨_, rfl, _, rfl, _, rfl, _, rfl, _, rfl, _, _, rfl, rfl, .inl ⟨by omega, by omega⟩, _, rfl, _, rfl, _, _, rfl, rfl, Bd.divOk (b := 5) (by omega) (by unfold Bd; omega) (by decide) _, _, rfl, ?_, fun p np => ?_⟩
              · show 4 ≤ sizeLine
                decide
              have st5 := st34.same (same_new np (.lst [.int (x.1 : Int), .int ((x.1 : Int) * (x.1 : Int)), .int (((qOf x : Nat) : Int) / (x.1 : Int)), .int ((qOf x : Nat) : Int)]))
              have npl := st34.post.off np
              refine ⟨d, l, p, _, rfl, st5.post, SqL.of upd_same, npl, by show 1 ≤ 4; decide, by show 4 ≤ 1000; decide, fun z H6 hz st6 => ?_⟩
              have ef6 := st6.lst nfl ((same_new np _) _ _ ef4)
              have hz' : ∃ n : Nat, z = .int (n : Int) ∧ n < 2 ^ 134 := by
                have b134 : (2 : Nat) ^ 133 < 2 ^ 134 := by decide
                have b10 : 841 < (2 : Nat) ^ 134 := by decide
                simp only [List.mem_cons, List.not_mem_nil, or_false] at hz
                rcases hz with rfl | rfl | rfl | rfl
                · exact ⟨x.1, rfl, by omega⟩
                · refine ⟨x.1 * x.1, by rw [Int.natCast_mul], ?_⟩
                  have : x.1 * x.1 ≤ 29 * 29 := Nat.mul_le_mul x2.2 x2.2
                  omega
                · refine ⟨qOf x / x.1, by rw [Int.natCast_ediv], ?_⟩
                  have := Nat.div_le_self (qOf x) x.1
                  omega
                · exact ⟨qOf x, rfl, by omega⟩
              obtain ⟨n, rfl, hn⟩ := hz'
              have bn : Bd (134 * (j + 1)) (num : Int) := by unfold Bd; omega
              have bn2 : Bd 134 (n : Int) := by unfold Bd; omega
              refine ⟨_, _, rfl, rfl, bn.mulOk bn2 (by omega), num * n, some (.int (x.1 : Int)), some (.int ((qOf x : Nat) : Int)), ?_, st5.trans st6, ef6, lt_shift hnum hn rfl⟩
              rw [Int.natCast_mul]
              rfl
            · exact ⟨num, _, _, rfl, st34, ef4, stay⟩
          · exact ⟨num, _, _, rfl, st3, ef3, stay⟩
        · rintro σ H3 ⟨num, x8, x9, rfl, st3, ef3, _⟩
          exact ⟨num, x8, x9, rfl, st3, ef3⟩
      · rintro σ H3 ⟨num, x8, x9, rfl, st3, ef3⟩
        have fin : ∀ n : Nat, ∃ (cs' : List Nat), (((intsN cs).map V.int) ++ [V.int ((n : Int) % ((mOf pw : Nat) : Int))]) = (intsN cs').map V.int ∧ cs'.length = i + 1 ∧ ∀ c ∈ cs', c < mOf pw := by
          intro n
          refine ⟨cs ++ [n % mOf pw], by simp [intsN], by simp [el], fun c hcm => ?_⟩
          rcases List.mem_append.mp hcm with k | k
          · exact hc c k
          · rw [List.mem_singleton.mp k]
            exact Nat.mod_lt _ (by omega)
        have room : ((intsN cs).map V.int).length < sizeLine := by
          simp only [List.length_map, el]
          exact Nat.lt_of_lt_of_le (show i < 4 by omega) (by decide)
        refine ⟨_, rfl, .inl ⟨rfl, _, SqL.of ef3⟩, _, rfl, rfl, _, rfl, ite2 (fun _ => ?_) (fun _ => ?_)⟩
        · refine .inl ⟨_, rfl, _, rfl, _, _, rfl, rfl, (show (0 : Int) < (mOf pw : Nat) by omega), fo, _, _, rfl, rfl, ef3, room, ?_⟩
          obtain ⟨cs', e1, e2, e3⟩ := fin 0
          refine ⟨cs', _, _, _, _, _, rfl, st3.upd nfo, ?_, e2, e3⟩
          rw [upd_same, ← e1]
          rfl
        · refine ⟨_, rfl, .inl ⟨_, rfl, _, rfl, _, _, rfl, rfl, (show (0 : Int) < (mOf pw : Nat) by omega), fo, _, _, rfl, rfl, ef3, room, ?_⟩⟩
          obtain ⟨cs', e1, e2, e3⟩ := fin num
          refine ⟨cs', _, _, _, _, _, rfl, st3.upd nfo, ?_, e2, e3⟩
          rw [upd_same, ← e1]
    · rintro σ H' ⟨cs, x5, x6, x7, x8, x9, rfl, st, ef, el, hc⟩
      exact ⟨cs, x5, x6, x7, x8, x9, rfl, st, ef, by rw [el]; omega, hc⟩
  · -- the numbers are mended
    rintro σ H0 ⟨cs0, x5, x6, x7, x8, x9, rfl, st0, ef0, el0, hc0⟩
    refine ⟨fun σ H' => ∃ (cs : List Nat) (x5 x6 x7 x8 x9 : Option V), σ = [some (.ref d), some (.ref a), some (.int ((mOf pw : Nat) : Int)), some (.int (dd : Int)), some (.ref fo), x5, x6, x7, x8, x9, none] ∧ Stp d l H H' ∧ H' fo = some (.lst ((intsN cs).map V.int)) ∧ cs.length = dd ∧ (∀ c ∈ cs, c < mOf pw) ∧ ∀ x ∈ pw, ∃ c ∈ cs, ¬ x.1 ∣ c, ?_, ?_⟩
    · refine ⟨_, rfl, a, rfl, ⟨_, st0.sqlO hal ha⟩, for_list (xs := as.map V.ref) (fun i σ H' => ∃ (cs : List Nat) (x5 x6 x7 x8 x9 : Option V), σ = [some (.ref d), some (.ref a), some (.int ((mOf pw : Nat) : Int)), some (.int (dd : Int)), some (.ref fo), x5, x6, x7, x8, x9, none] ∧ Stp d l H H' ∧ H' fo = some (.lst ((intsN cs).map V.int)) ∧ cs.length = dd ∧ (∀ c ∈ cs, c < mOf pw) ∧ ∀ (j : Nat) (x : Nat × Nat), j < i → pw[j]? = some x → ∃ c ∈ cs, ¬ x.1 ∣ c) ⟨cs0, x5, x6, x7, x8, x9, rfl, st0, ef0, el0, hc0, fun _ _ h => absurd h (Nat.not_lt_zero _)⟩ ?_ ?_ ?_⟩
      · rintro j σ H3 _ ⟨_, _, _, _, _, _, rfl, st3, _⟩
        exact st3.sqlO hal ha
      · rintro i v σ H' hx ⟨cs, x5, x6, x7, x8, x9, rfl, st, ef, el, hc, ok⟩
        obtain ⟨t, x, ht, hxp, rfl, hilt⟩ := pairs_at hl hx
        have hmem := List.mem_of_getElem? hxp
        have hxP := hP.ok.mem hmem
        have x2 := PN_lt _ hxP
        have qx := qOf_le hP.ok hmem
        refine ⟨t, _, rfl, st.sqt (hi i t x ht hxp), rfl, _, _, rfl, _, _, rfl, rfl, ?_⟩
        let kept : Nat → List Nat := fun j => (cs.take j).filter fun c => decide (0 < c % x.1)
        refine ⟨_, rfl, fo, rfl, ⟨_, SqL.of ef⟩, fun D nD => lc_list (xs := (intsN cs).map V.int) (Lc H' D fun j => (intsN (kept j)).map V.int) (lc_start nD rfl) (fun _ _ _ h => h.1.seq (SqL.of ef)) (fun j v H2 hv h => ?_) (fun H2 h => ?_)⟩
        · rw [List.getElem?_map, List.getElem?_map] at hv
          obtain ⟨c, hcj, rfl⟩ : ∃ c, cs[j]? = some c ∧ V.int (c : Int) = v := by
            cases e : cs[j]? with
            | none => rw [e] at hv; cases hv
            | some y => rw [e] at hv; exact ⟨y, rfl, Option.some.inj hv⟩
          have hk : kept (j + 1) = if 0 < c % x.1 then kept j ++ [c] else kept j := by
            show (cs.take (j + 1)).filter _ = _
            rw [List.take_add_one, hcj, List.filter_append]
            by_cases q0 : 0 < c % x.1 <;> simp [q0, kept]
          have hkl : (kept j).length ≤ 3 := by
            refine Nat.le_trans (List.length_filter_le _ _) ?_
            rw [List.length_take]
            omega
          refine ⟨rfl, _, rfl, .inl ⟨_, rfl, _, rfl, _, _, rfl, rfl, (show (0 : Int) < (x.1 : Nat) by omega), _, _, rfl, rfl, _, rfl, ite2 (fun z => ?_) (fun z => ?_)⟩⟩
          · have z : (0 : Int) < (c : Int) % (x.1 : Nat) := of_decide_eq_true z
            rw [if_pos (by omega)] at hk
            exact ⟨_, rfl, lc_leaf nD h.1 h.2 (by simp only [List.length_map]; omega) (by rw [hk]; simp [intsN])⟩
          · have z : ¬ (0 : Int) < (c : Int) % (x.1 : Nat) := fun y => z (decide_eq_true y)
            rw [if_neg (by omega)] at hk
            exact lc_skip h.1 h.2 (by rw [hk])
        · have e2 : H2 D = some (.lst ((intsN (kept cs.length)).map V.int)) := by
            have := h.2
            simpa using this
          have ek : kept cs.length = cs.filter fun c => decide (0 < c % x.1) := by simp [kept]
          refine ⟨Nat.zero_le _, fun p np => ?_⟩
          have s2 := h.1
          have sp := same_new np (.lst [])
          have stp := st.same (s2.trans sp)
          have efp := sp _ _ (s2 _ _ ef)
          refine ⟨.list ((intsN (kept cs.length)).map PyData.int), .list [], .lst (SqL.of (sp _ _ e2)) (dp_ints _), .lst (SqL.of upd_same) .nil, shaped_ints _, shaped_ints [], _, rfl, ?_⟩
          rw [eqv_nil]
          refine ite2 (fun c => ?_) (fun c => ?_)
          · have c : intsN (kept cs.length) = [] := of_decide_eq_true c
            have c0 : kept cs.length = [] := by simpa [intsN] using c
            have all : ∀ c ∈ cs, x.1 ∣ c := by
              intro c' hc'
              rw [ek, List.filter_eq_nil_iff] at c0
              have := c0 c' hc'
              simp only [decide_eq_true_eq] at this
              exact Nat.dvd_of_mod_eq_zero (by omega)
            refine ⟨_, rfl, _, rfl, d, l, _, rfl, stp.post, by omega, bdN (n := 3) (by omega) (by omega) (by decide), fun k H3 k0 k1 st3 => ?_⟩
            obtain ⟨k, rfl⟩ : ∃ n : Nat, k = (n : Int) := ⟨k.toNat, by omega⟩
            have hk : k < cs.length := by omega
            have ef3 := st3.lst nfl efp
            have stp3 := stp.trans st3
            have at_k : ((intsN cs).map V.int)[k]? = some (.int (cs[k] : Int)) := by
              rw [List.getElem?_map, List.getElem?_map, List.getElem?_eq_getElem hk]
              rfl
            refine ⟨_, rfl, _, rfl, fo, _, _, _, rfl, rfl, SqL.of ef3, atI_nat at_k, ?_⟩
            refine ⟨_, rfl, _, rfl, _, _, rfl, rfl, Bd.divOk (b := 133) (by omega) (by unfold Bd at *; omega) (by decide) _, _, _, rfl, rfl, .inl ⟨_, rfl, _, rfl, _, _, rfl, rfl, (show (0 : Int) < (mOf pw : Nat) by omega), ?_⟩⟩
            refine ⟨_, rfl, _, rfl, fo, _, _, k, rfl, rfl, ef3, ?_, ?_⟩
            · unfold ixN
              simp only [List.length_map]
              rw [if_pos (by omega), if_pos (by omega)]
              simp
            have ev : (((cs[k] : Nat) : Int) + ((mOf pw : Nat) : Int) / ((qOf x : Nat) : Int)) % ((mOf pw : Nat) : Int) = (((cs[k] + mOf pw / qOf x) % mOf pw : Nat) : Int) := by
              rw [Int.natCast_emod, Int.natCast_add, Int.natCast_ediv]
            obtain ⟨m1, m2⟩ := mend hP.ok hmem all hk
            refine ⟨cs.set k ((cs[k] + mOf pw / qOf x) % mOf pw), _, _, _, _, _, rfl, stp3.upd nfo, ?_, by rw [List.length_set]; exact el, ?_, ?_⟩
            · rw [upd_same, ← set_intsN, ← ev]
            · intro c hcm
              rcases List.mem_or_eq_of_mem_set hcm with z | z
              · exact hc c z
              · rw [z]
                exact Nat.mod_lt _ (by omega)
            · intro j y hj hy
              have hmk : (cs[k] + mOf pw / qOf x) % mOf pw ∈ cs.set k ((cs[k] + mOf pw / qOf x) % mOf pw) := by
                have := List.getElem_mem (l := cs.set k ((cs[k] + mOf pw / qOf x) % mOf pw)) (n := k) (by rw [List.length_set]; exact hk)
                rwa [List.getElem_set_self] at this
              by_cases e : j = i
              · subst e
                rw [hxp] at hy
                cases hy
                exact ⟨_, hmk, m1⟩
              · have hym := List.mem_of_getElem? hy
                obtain ⟨c', hc', nd⟩ := ok j y (by omega) hy
                have ne : y.1 ≠ x.1 := by
                  intro ee
                  have h1 : (pw.map (·.1))[j]? = some y.1 := by rw [List.getElem?_map, hy]; rfl
                  have h2 : (pw.map (·.1))[i]? = some x.1 := by rw [List.getElem?_map, hxp]; rfl
                  exact e (nd_ix hP.ok.nodup h1 (ee ▸ h2))
                obtain ⟨j', hj', ej⟩ := List.mem_iff_getElem.mp hc'
                by_cases ek' : j' = k
                · subst ek'
                  exact ⟨_, hmk, m2 y hym ne (by rw [ej]; exact nd)⟩
                · refine ⟨c', ?_, nd⟩
                  have := List.getElem_mem (l := cs.set k ((cs[k] + mOf pw / qOf x) % mOf pw)) (n := j') (by rw [List.length_set]; exact hj')
                  rw [List.getElem_set_ne (fun z => ek' z.symm)] at this
                  rw [← ej]
                  exact this
          · have c : ¬ intsN (kept cs.length) = [] := fun z => c (decide_eq_true z)
            refine ⟨cs, _, _, _, _, _, rfl, stp, efp, el, hc, fun j y hj hy => ?_⟩
            by_cases e : j = i
            · subst e
              rw [hxp] at hy
              cases hy
              have ne : kept cs.length ≠ [] := fun z => c (by rw [z]; rfl)
              obtain ⟨c', r, ec⟩ := List.exists_cons_of_ne_nil ne
              have : c' ∈ cs.filter fun c => decide (0 < c % x.1) := by rw [← ek, ec]; exact List.mem_cons_self
              obtain ⟨k1, k2⟩ := List.mem_filter.mp this
              refine ⟨c', k1, fun dv => ?_⟩
              have := Nat.mod_eq_zero_of_dvd dv
              simp only [decide_eq_true_eq] at k2
              omega
            · exact ok j y (by omega) hy
      · rintro σ H' ⟨cs, x5, x6, x7, x8, x9, rfl, st, ef, el, hc, ok⟩
        rw [List.length_map, hl] at ok
        refine ⟨cs, x5, x6, x7, x8, x9, rfl, st, ef, el, hc, fun x hx => ?_⟩
        obtain ⟨j, hj, e⟩ := List.mem_iff_getElem.mp hx
        exact ok j x hj (by rw [← e]; exact List.getElem?_eq_getElem hj)
    · rintro σ H' ⟨cs, x5, x6, x7, x8, x9, rfl, st, ef, el, hc, ok⟩
      refine ⟨_, rfl, fo, _, rfl, .inl ⟨SqL.of ef, fun p np => ?_⟩⟩
      exact q p cs _ (st.same (same_new np _)) (SqT.of upd_same) el hc ok
theorem cl__law_numbers {X : Cx} {p pos : Pos} {e : Expr} {es : List Expr} {t : TA} (T : Txt K mg) (hr : Room 3 X.A) (ha : PA X (e :: es) t) (hg : Gl X "_law_numbers" := by rfl)
    (he : starEach (e :: es) X.env = (false, eval e X.env) :: starEach es X.env := by rfl) (hpl : (backTo pos (starEach es X.env)).any (·.1) = false := by rfl) (hK : X.K = K := by rfl) (hmg : X.mg = mg := by rfl) :
    PE X (.Call (.Name "_law_numbers" p) (e :: es) [] pos) (tCall (sp__law_numbers K) [] E0 t) := by
  subst hK hmg
  exact pe_call (ok__law_numbers T) hr hg T.m__law_numbers T.F__law_numbers.kp T.b__law_numbers .nil pass0 ha (by decide) he hpl
end
end KL
namespace KL
open PySem PySem.Spec PyProof.Rows L2 RZ StX SrtO Kw KM
theorem inV_nat (p : Nat) : ∀ l : List Nat, inV (.int (p : Int)) ((intsN l).map V.int) = decide (p ∈ l)
  | [] => rfl
  | c :: r => by
    have ih := inV_nat p r
    unfold inV at *
    simp only [intsN, List.map_cons, List.any_cons] at *
    rw [ih]
    by_cases e : p = c
    · subst e
      simp [eqV]
    · have : ¬ ((c : Int) = (p : Int)) := fun z => e (by omega)
      simp [eqV, e, this]
theorem flat_nat : ∀ l : List Nat, ((intsN l).map V.int).all flatV = true
  | [] => rfl
  | c :: r => by
    have ih := flat_nat r
    simp only [intsN, List.map_cons, List.all_cons] at *
    rw [ih]
    rfl
theorem prodI_perm {a b : List Nat} (h : a.Perm b) : prodI a = prodI b := by
  induction h with
  | nil => rfl
  | cons x _ ih => rw [prodI_cons, prodI_cons, ih]
  | swap x y r => rw [prodI_cons, prodI_cons, prodI_cons, prodI_cons, Nat.mul_left_comm]
  | trans _ _ i1 i2 => exact i1.trans i2
theorem perm_nat {ns : List Int} {F : List Nat} (h : ns.Perm (intsN F)) : ∃ S : List Nat, ns = intsN S ∧ S.Perm F := by
  refine ⟨ns.map Int.toNat, ?_, ?_⟩
  · have : ∀ z ∈ ns, 0 ≤ z := fun z hz => by
      obtain ⟨n, _, e⟩ := List.mem_map.mp (h.mem_iff.mp hz)
      omega
    clear h
    induction ns with
    | nil => rfl
    | cons z r ih =>
      have h0 := this z List.mem_cons_self
      have := ih fun y hy => this y (List.mem_cons_of_mem _ hy)
      simp only [intsN, List.map_cons] at *
      rw [← this]
      congr 1
      omega
  · have := h.map Int.toNat
    have e : (intsN F).map Int.toNat = F := by
      unfold intsN
      rw [List.map_map]
      have : (Int.toNat ∘ fun p : Nat => (p : Int)) = id := by
        funext x
        simp
      rw [this, List.map_id]
    rw [e] at this
    exact this
/-- an ascending list within an ascending one is a part of it -/
theorem sub_of_asc : ∀ {l s : List Nat}, l.Pairwise (· < ·) → s.Pairwise (· < ·) → (∀ x ∈ s, x ∈ l) → s.Sublist l
  | [], s, _, _, h => by
    cases s with
    | nil => exact .slnil
    | cons x r => exact absurd (h x List.mem_cons_self) List.not_mem_nil
  | y :: l, [], _, _, _ => List.nil_sublist _
  | y :: l, x :: r, hl, hs, h => by
    have hl' := List.pairwise_cons.mp hl
    have hs' := List.pairwise_cons.mp hs
    rcases List.mem_cons.mp (h x List.mem_cons_self) with e | hx
    · subst e
      refine List.Sublist.cons_cons _ (sub_of_asc hl'.2 hs'.2 fun z hz => ?_)
      rcases List.mem_cons.mp (h z (List.mem_cons_of_mem _ hz)) with e | k
      · have := hs'.1 z hz
        omega
      · exact k
    · refine List.Sublist.cons _ (sub_of_asc hl'.2 hs fun z hz => ?_)
      rcases List.mem_cons.mp (h z hz) with e | k
      · subst e
        have := hl'.1 x hx
        rcases List.mem_cons.mp hz with e | k
        · omega
        · have := hs'.1 z k
          omega
      · exact k
theorem mOf_append : ∀ (pw : List (Nat × Nat)) (x : Nat × Nat), mOf (pw ++ [x]) = mOf pw * qOf x
  | [], x => by simp [mOf, qOf]
  | y :: r, x => by
    show y.1 ^ y.2 * mOf (r ++ [x]) = y.1 ^ y.2 * mOf r * qOf x
    rw [mOf_append r x, Nat.mul_assoc]
theorem prodP_map : ∀ pw : List (Nat × Nat), prodP pw = prodI (pw.map (·.1))
  | [] => rfl
  | x :: r => by
    show x.1 * prodP r = prodI (x.1 :: r.map (·.1))
    rw [prodI_cons, prodP_map r]
def SOME : List Nat := [2, 2, 3, 3, 5, 7, 11, 13, 17, 19, 23, 29]
theorem SOME_PN : ∀ p ∈ SOME, p ∈ PN := by decide
section
variable {P : Program} {w : World} {K : PySem.W.Frag} {mg : Str → Option Value} {base : Heap}
def sp__law_powers (K : PySem.W.Frag) : Sp := fun vs H Q _ => ∃ (d l : Addr) (top : Int), vs = [.ref d, .int top, .int 1000] ∧ top = ((10 ^ 40 : Nat) : Int) ∧ DeckAt H d l ∧
  ∀ (p : Addr) (pw : List (Nat × Nat)) (H' : Hp), Stp d l H H' → p ≠ l → PerD pw → PwAt K H' p pw → Q (.ref p) H'
/-- what stands at the addresses of pairs -/
def Tups (K : PySem.W.Frag) (H : Hp) (as : List Addr) (pw : List (Nat × Nat)) : Prop := as.length = pw.length ∧ ∀ (i : Nat) (t : Addr) (x : Nat × Nat), as[i]? = some t → pw[i]? = some x → SqT K H t [.int x.1, .int ((qOf x : Nat) : Int)]
theorem Tups.snoc {H : Hp} {as : List Addr} {pw : List (Nat × Nat)} {t : Addr} {x : Nat × Nat} (h : Tups K H as pw) (ht : SqT K H t [.int x.1, .int ((qOf x : Nat) : Int)]) : Tups K H (as ++ [t]) (pw ++ [x]) := by
  refine ⟨by simp [h.1], fun i u y h1 h2 => ?_⟩
  rcases Nat.lt_or_ge i as.length with c | c
  · rw [List.getElem?_append_left c] at h1
    rw [List.getElem?_append_left (h.1 ▸ c)] at h2
    exact h.2 i u y h1 h2
  · rw [List.getElem?_append_right c] at h1
    rw [List.getElem?_append_right (h.1 ▸ c)] at h2
    have e : i - as.length = 0 := by
      have := (List.getElem?_eq_some_iff.mp h1).1
      simp at this
      omega
    rw [e] at h1
    rw [← h.1, e] at h2
    cases h1
    cases h2
    exact ht
end
end KL
namespace KL
open PySem PySem.Spec PyProof.Rows L2 RZ StX SrtO Kw KM
section
variable {P : Program} {w : World} {K : PySem.W.Frag} {mg : Str → Option Value} {base : Heap}
theorem Tups.stp {d l : Addr} {H H' : Hp} {as : List Addr} {pw : List (Nat × Nat)} (s : Stp d l H H') (h : Tups K H as pw) : Tups K H' as pw := ⟨h.1, fun i t x h1 h2 => s.sqt (h.2 i t x h1 h2)⟩
theorem Tups.same {H H' : Hp} {as : List Addr} {pw : List (Nat × Nat)} (s : Same H H') (h : Tups K H as pw) : Tups K H' as pw := ⟨h.1, fun i t x h1 h2 => s.sqt (h.2 i t x h1 h2)⟩
/-- a list changes: the tuples stay -/
theorem sqt_updL {H : Hp} {a p : Addr} {xs ys zs : List V} (e : H p = some (.lst ys)) (h : SqT K H a xs) : SqT K (upd H p (.lst zs)) a xs := by
  rcases h with (h | ⟨o, h⟩) | h
  · exact .inl (.inl (by rw [upd_ne (ne_of h e (by intro z; cases z))]; exact h))
  · exact .inl (.inr ⟨o, by rw [upd_ne (ne_of h e (by intro z; cases z))]; exact h⟩)
  · exact .inr h
theorem Tups.updL {H : Hp} {p : Addr} {ys zs : List V} {as : List Addr} {pw : List (Nat × Nat)} (e : H p = some (.lst ys)) (h : Tups K H as pw) : Tups K (upd H p (.lst zs)) as pw :=
  ⟨h.1, fun i t x h1 h2 => sqt_updL e (h.2 i t x h1 h2)⟩
theorem ok__law_powers (T : Txt K mg) : FnOk P w K mg base CX0 3 T.a__law_powers T.d__law_powers ["_law_deck_here", "_law_top", "_law_most"] (sp__law_powers K) := by
  refine T.F__law_powers.ok sc__law_powers (fun vs H Q E h => ?_) (fun cdv A outer s H vs Q E hr h => ?_)
  · obtain ⟨d, l, top, rfl, _⟩ := h
    rfl
  obtain ⟨d, l, top, rfl, htop, hD, q⟩ := h
  refine ⟨_, pss_cons (ps_asg (pe_tup (pa_cons (pe_lst (pa_cons pe_int (pa_cons pe_int (pa_cons pe_int (pa_cons pe_int (pa_cons pe_int (pa_cons pe_int (pa_cons pe_int (pa_cons pe_int (pa_cons pe_int (pa_cons pe_int (pa_cons pe_int (pa_cons pe_int pa_nil))))))))))))) (pa_cons pe_int (pa_cons (pv 2) (pa_cons (pe_lst pa_nil) pa_nil))))) (pg_tup (by rfl) (pgs_cons (pg_name (i := 3) sc__law_powers.nd rfl (Or.inl rfl)) (pgs_cons (pg_name (i := 4) sc__law_powers.nd rfl (Or.inl rfl)) (pgs_cons (pg_name (i := 5) sc__law_powers.nd rfl (Or.inl rfl)) (pgs_cons (pg_name (i := 6) sc__law_powers.nd rfl (Or.inl rfl)) pgs_nil))))))
    (pss_cons (ps_set (i := 7) sc__law_powers.nd rfl (Or.inl rfl) (cl__law_draw T (hr.mono (by decide)) (pa_cons (pv 0) (pa_cons pe_int pa_nil))))
    (Evl.pss_cut (ps_for PassesOwn.never rfl (pi_range1 (by rfl) T.n_range (pa_cons (cl__law_pick T (hr.mono (by decide)) (pa_cons (pv 0) (pa_cons (pe_lst (pa_cons pe_int (pa_cons pe_int (pa_cons pe_int (pa_cons pe_int (pa_cons pe_int (pa_cons pe_int (pa_cons pe_int (pa_cons pe_int (pa_cons pe_int pa_nil)))))))))) pa_nil))) pa_nil)) (pg_name (i := 8) sc__law_powers.nd rfl (Or.inl rfl)) (pss_cons (ps_set (i := 9) sc__law_powers.nd rfl (Or.inl rfl) (cl__law_pick T (hr.mono (by decide)) (pa_cons (pv 0) (pa_cons (pv 3) pa_nil))))
        (pss_one (ps_if (PW.pt (pw_and (pt_cmpR op_notIn_seq (pv 9) (pv 6) (by rfl)) (pw_and (pt_cmpR op_le (pv 9) (pv 5) (nomark _)) (pw_and1 (pt_cmpR op_lt (pe_op op_mul (pv 4) (pv 9)) (pv 1) (nomark _)))))) (pss_cons (ps_expr (pe_bm PySem.F.plainAttrs_list PySem.F.slot_list_append PySem.F.type_list_append mt_append (pv 6) (pa_cons (pv 9) pa_nil)))
            (pss_one (ps_par (i := 4) (j := 5) (by rfl) sc__law_powers.nd rfl rfl (by decide) rfl rfl (pa_cons (pe_op op_mul (pv 4) (pv 9)) (pa_cons (pe_op op_fdivW (pv 5) (pv 9)) pa_nil)) (by rfl)))) pss_nil))))
    (pss_cons (ps_set (i := 10) sc__law_powers.nd rfl (Or.inl rfl) (pe_lst pa_nil))
    (pss_cons (ps_for PassesOwn.never rfl (pi_list (pe_callB cr_sortedI (by rfl) T.n_sorted (by decide +kernel) (pa_cons (pv 6) pa_nil))) (pg_name (i := 9) sc__law_powers.nd rfl (Or.inl rfl)) (pss_cons (ps_set (i := 11) sc__law_powers.nd rfl (Or.inl rfl) (pv 9))
        (Evl.pss_cut (ps_for PassesOwn.never rfl (pi_range1 (by rfl) T.n_range (pa_cons (cl__law_draw T (hr.mono (by decide)) (pa_cons (pv 0) (pa_cons (pe_ix ix_list (pe_lst (pa_cons pe_int (pa_cons pe_int (pa_cons pe_int (pa_cons pe_int pa_nil))))) (pv 7) (fun _ _ => rfl)) pa_nil))) pa_nil)) (pg_name (i := 8) sc__law_powers.nd rfl (Or.inl rfl)) (pss_one (ps_if (pt_cmpR op_lt (pe_op op_mul (pv 4) (pv 9)) (pv 1) (nomark _)) (pss_one (ps_par (i := 11) (j := 4) (by rfl) sc__law_powers.nd rfl rfl (by decide) rfl rfl (pa_cons (pe_op op_mul (pv 11) (pv 9)) (pa_cons (pe_op op_mul (pv 4) (pv 9)) pa_nil)) (by rfl))) pss_nil)))
        (pss_one (ps_expr (pe_bm PySem.F.plainAttrs_list PySem.F.slot_list_append PySem.F.type_list_append mt_append (pv 10) (pa_cons (pe_tup (pa_cons (pv 9) (pa_cons (pv 11) pa_nil))) pa_nil)))))))
    (pss_one (ps_ret (pv 10))))))), ?_⟩
  have small : ∀ n : Nat, n < 1000 → Bd 2000 (n : Int) := fun n h => bdN (n := n) (by omega) (by omega) (Nat.lt_of_lt_of_le h (by decide))
  have topN : ∃ B : Nat, B = 10 ^ 40 ∧ top = (B : Int) := ⟨_, rfl, htop⟩
  obtain ⟨B, hB, rfl⟩ := topN
  clear htop
  have B1 : 1 < B := by rw [hB]; decide
  -- the four names
  refine ⟨(by show 12 ≤ sizeLine; decide), fun so nso => ?_⟩
  refine ⟨_, rfl, Nat.zero_le _, fun fo nfo => ⟨(by show 4 ≤ sizeLine; decide), fun tp ntp => ?_⟩⟩
  refine ⟨tp, _, rfl, SqT.of upd_same, rfl, _, _, rfl, _, _, rfl, _, _, rfl, _, _, rfl, rfl, ?_⟩
  have sA := same_new nso (.lst ((intsN SOME).map V.int))
  have sB := same_new nfo (.lst [])
  have sC := same_new ntp (.tup [V.ref so, V.int 1, V.int 1000, V.ref fo])
  have eso := sC _ _ (sB _ _ (upd_same (H := H) (a := so) (o := .lst ((intsN SOME).map V.int))))
  have efo := sC _ _ (upd_same (H := upd H so (.lst ((intsN SOME).map V.int))) (a := fo) (o := .lst []))
  have sABC := (sA.trans sB).trans sC
  have nfo0 : H fo = none := sA.free nfo
  have nsf : so ≠ fo := ne_of_none (upd_same (H := H) (a := so) (o := .lst ((intsN SOME).map V.int))) nfo
  have st0 := hD.stp sABC
  have nsl := hD.off nso
  have nfl := hD.off nfo0
  generalize upd (upd (upd H so (.lst ((intsN SOME).map V.int))) fo (.lst [])) tp (.tup [V.ref so, V.int 1, V.int 1000, V.ref fo]) = H0 at sC eso efo sABC st0
  refine ⟨_, rfl, d, l, 4, rfl, st0.post, by decide, small 4 (by decide), fun way H1 w0 w1 st1 => ?_⟩
  have st01 := st0.trans st1
  have eso1 := st1.lst nsl eso
  have efo1 := st1.lst nfl efo
  -- the primes are drawn
  refine ⟨fun σ H' => ∃ (F : List Nat) (rest : Nat) (x8 x9 : Option V), σ = [some (.ref d), some (.int (B : Int)), some (.int 1000), some (.ref so), some (.int ((prodI F : Nat) : Int)), some (.int (rest : Int)), some (.ref fo), some (.int way), x8, x9, none, none] ∧ Stp d l H H' ∧ H' so = some (.lst ((intsN SOME).map V.int)) ∧ H' fo = some (.lst ((intsN F).map V.int)) ∧ F.Nodup ∧ (∀ p ∈ F, p ∈ PN) ∧ prodI F ≤ 1000 ∧ prodI F < B, ?_, ?_⟩
  · refine ⟨_, rfl, (by show 9 ≤ sizeLine; decide), fun z nz => ?_⟩
    have sz := same_new nz (.lst [V.int 0, V.int 1, V.int 1, V.int 2, V.int 2, V.int 3, V.int 4, V.int 6, V.int 6])
    refine ⟨d, l, z, _, rfl, st1.post.same sz, SqL.of upd_same, st1.post.off nz, by show 1 ≤ 9; decide, by show 9 ≤ 1000; decide, fun v H2 hv st2 => ?_⟩
    have st02 := (st01.same sz).trans st2
    obtain ⟨n, rfl, hn⟩ : ∃ n : Nat, v = .int (n : Int) ∧ n ≤ 6 := by
      simp only [List.mem_cons, List.not_mem_nil, or_false] at hv
      rcases hv with rfl | rfl | rfl | rfl | rfl | rfl | rfl | rfl | rfl
      · exact ⟨0, rfl, by decide⟩
      · exact ⟨1, rfl, by decide⟩
      · exact ⟨1, rfl, by decide⟩
      · exact ⟨2, rfl, by decide⟩
      · exact ⟨2, rfl, by decide⟩
      · exact ⟨3, rfl, by decide⟩
      · exact ⟨4, rfl, by decide⟩
      · exact ⟨6, rfl, by decide⟩
      · exact ⟨6, rfl, by decide⟩
    refine ⟨n, rfl, by omega, by omega, for_range (lo := 0) (n := ((n : Nat) : Int).toNat) (fun i σ H' => ∃ (F : List Nat) (rest : Nat) (x8 x9 : Option V), σ = [some (.ref d), some (.int (B : Int)), some (.int 1000), some (.ref so), some (.int ((prodI F : Nat) : Int)), some (.int (rest : Int)), some (.ref fo), some (.int way), x8, x9, none, none] ∧ Stp d l H H' ∧ H' so = some (.lst ((intsN SOME).map V.int)) ∧ H' fo = some (.lst ((intsN F).map V.int)) ∧ F.Nodup ∧ (∀ p ∈ F, p ∈ PN) ∧ 1 ≤ rest ∧ prodI F * rest ≤ 1000 ∧ prodI F < B ∧ F.length ≤ i) ⟨[], 1000, none, none, rfl, st02, st2.lst nsl (sz _ _ eso1), st2.lst nfl (sz _ _ efo1), List.nodup_nil, (fun _ h => absurd h List.not_mem_nil), by decide, by decide, B1, Nat.le_refl _⟩ ?_ ?_⟩
    · rintro i σ H' hi ⟨F, rest, x8, x9, rfl, st, es, ef, nd, hPN, r1, r2, r3, r4⟩
      refine ⟨_, rfl, _, rfl, d, l, so, _, rfl, st.post, SqL.of es, nsl, by show 1 ≤ 12; decide, by show 12 ≤ 1000; decide, fun v H3 hv st3 => ?_⟩
      obtain ⟨p, hp, rfl⟩ : ∃ p : Nat, p ∈ SOME ∧ v = .int (p : Int) := by
        obtain ⟨z, hz, rfl⟩ := List.mem_map.mp hv
        obtain ⟨p, hp, rfl⟩ := List.mem_map.mp hz
        exact ⟨p, hp, rfl⟩
      have pPN := SOME_PN p hp
      have p2 := PN_lt p pPN
      have es3 := st3.lst nsl es
      have ef3 := st3.lst nfl ef
      have stt := st.trans st3
      have stay : ∃ (F : List Nat) (rest' : Nat) (x8' x9' : Option V), [some (.ref d), some (.int (B : Int)), some (.int 1000), some (.ref so), some (.int ((prodI F : Nat) : Int)), some (.int (rest' : Int)), some (.ref fo), some (.int way), x8', x9', none, none] = [some (.ref d), some (.int (B : Int)), some (.int 1000), some (.ref so), some (.int ((prodI F : Nat) : Int)), some (.int (rest : Int)), some (.ref fo), some (.int way), some (.int (0 + (i : Int))), some (.int (p : Int)), none, none] := ⟨F, rest, _, _, rfl⟩
      refine ⟨_, rfl, _, rfl, fo, _, rfl, .inl (SqL.of ef3), rfl, flat_nat F, _, rfl, ?_⟩
      rw [inV_nat]
      refine ite2 (fun c => ?_) (fun c => ?_)
      · have hpF : p ∉ F := by
          intro z
          rw [decide_eq_true z] at c
          cases c
        refine ⟨_, rfl, _, rfl, _, _, rfl, rfl, _, rfl, ite2 (fun c2 => ?_) (fun c2 => ?_)⟩
        · have c2 : (p : Int) ≤ rest := of_decide_eq_true c2
          refine ⟨_, rfl, _, rfl, _, _, rfl, rfl, .inr ⟨by omega, by omega⟩, _, rfl, _, _, rfl, rfl, _, rfl, ite2 (fun c3 => ?_) (fun c3 => ?_)⟩
          · have c3 : ((prodI F : Nat) : Int) * (p : Int) < (B : Int) := of_decide_eq_true c3
            refine ⟨_, rfl, .inl ⟨rfl, _, SqL.of ef3⟩, _, rfl, fo, _, _, rfl, rfl, ef3, ?_, ?_⟩
            · simp only [List.length_map]
              exact Nat.lt_of_lt_of_le (show F.length < 10 by omega) (by decide)
            refine ⟨_, rfl, _, rfl, _, _, rfl, rfl, .inr ⟨by omega, by omega⟩, _, rfl, _, rfl, _, _, rfl, rfl, Bd.divOk (b := 5) (by omega) (by unfold Bd; omega) (by decide) _, _, _, rfl, ?_⟩
            have e1 : prodI (F ++ [p]) = prodI F * p := prodI_snoc F p
            refine ⟨F ++ [p], rest / p, some (.int (0 + (i : Int))), some (.int (p : Int)), ?_, stt.upd nfo0, ?_, ?_, ?_, ?_, ?_, ?_, ?_, ?_⟩
            · rw [e1, Int.natCast_mul, Int.natCast_ediv]
              rfl
            · rw [upd_ne nsf]
              exact es3
            · rw [upd_same]
              simp [intsN]
            · exact List.nodup_append.mpr ⟨nd, by simp, fun a ha b hb => by
                rw [List.mem_singleton.mp hb]
                exact fun z => hpF (z ▸ ha)⟩
            · intro y hy
              rcases List.mem_append.mp hy with k | k
              · exact hPN y k
              · rw [List.mem_singleton.mp k]
                exact pPN
            · exact (Nat.le_div_iff_mul_le (by omega)).mpr (by omega)
            · rw [e1, Nat.mul_assoc]
              exact Nat.le_trans (Nat.mul_le_mul_left _ (Nat.mul_div_le rest p)) r2
            · rw [e1]
              rw [← Int.natCast_mul] at c3
              omega
            · simp
              omega
          · exact ⟨F, rest, _, _, rfl, stt, es3, ef3, nd, hPN, r1, r2, r3, by omega⟩
        · exact ⟨F, rest, _, _, rfl, stt, es3, ef3, nd, hPN, r1, r2, r3, by omega⟩
      · exact ⟨F, rest, _, _, rfl, stt, es3, ef3, nd, hPN, r1, r2, r3, by omega⟩
    · rintro σ H' ⟨F, rest, x8, x9, rfl, st, es, ef, nd, hPN, r1, r2, r3, r4⟩
      exact ⟨F, rest, x8, x9, rfl, st, es, ef, nd, hPN, Nat.le_trans (Nat.le_mul_of_pos_right _ r1) r2, r3⟩
  · rintro σ H2 ⟨F, rest, x8, x9, rfl, st2, es, ef, nd, hPN, r2, r3⟩
    refine ⟨Nat.zero_le _, fun pa npa => ?_⟩
    have spa := same_new npa (.lst [])
    have npa0 := st2.free npa
    have npl := st2.post.off npa
    have st3 := st2.same spa
    have ef3 := spa _ _ ef
    refine ⟨_, rfl, fo, _, rfl, SqL.of ef3, fun ns sl hperm hpw nsl2 => ?_⟩
    obtain ⟨S, rfl, hS⟩ := perm_nat hperm
    have ssl := same_new nsl2 (.lst ((intsN S).map V.int))
    have st4 := st3.same ssl
    have nslpa : sl ≠ pa := (ne_of_none (upd_same (H := H2) (a := pa) (o := .lst [])) nsl2).symm
    have esl : (upd (upd H2 pa (.lst [])) sl (.lst ((intsN S).map V.int))) sl = some (.lst ((intsN S).map V.int)) := upd_same
    have epa : (upd (upd H2 pa (.lst [])) sl (.lst ((intsN S).map V.int))) pa = some (.lst []) := ssl _ _ upd_same
    have nsll := st3.post.off nsl2
    have hasc : S.Pairwise (· < ·) := by
      have h1 : S.Pairwise (· ≤ ·) := by
        have := List.pairwise_map.mp hpw
        exact this.imp fun {a b} h => by omega
      have h2 : S.Nodup := hS.nodup_iff.mpr nd
      exact (List.pairwise_and_iff.mpr ⟨h1, h2⟩).imp fun {a b} h => by have := h.1; have := h.2; omega
    have hSPN : ∀ p ∈ S, p ∈ PN := fun p hp => hPN p (hS.mem_iff.mp hp)
    have hsub : S.Sublist PN := sub_of_asc (by decide) hasc hSPN
    have hSp : prodI S = prodI F := prodI_perm hS
    generalize hH4 : upd (upd H2 pa (.lst [])) sl (.lst ((intsN S).map V.int)) = H4 at st4 esl epa
    refine ⟨sl, rfl, ⟨_, SqL.of esl⟩, for_list (xs := (intsN S).map V.int) (fun i σ H' => ∃ (pw : List (Nat × Nat)) (as : List Addr) (x8 x9 x11 : Option V), σ = [some (.ref d), some (.int (B : Int)), some (.int 1000), some (.ref so), some (.int ((mOf pw * prodI (S.drop i) : Nat) : Int)), some (.int (rest : Int)), some (.ref fo), some (.int way), x8, x9, some (.ref pa), x11] ∧ Stp d l H H' ∧ H' sl = some (.lst ((intsN S).map V.int)) ∧ H' pa = some (.lst (as.map V.ref)) ∧ Tups K H' as pw ∧ pw.map (·.1) = S.take i ∧ (∀ x ∈ pw, 1 ≤ x.2) ∧ mOf pw * prodI (S.drop i) < B) ⟨[], [], x8, x9, none, ?_, st4, esl, epa, ⟨rfl, fun i t x h => by cases h⟩, rfl, (fun _ h => absurd h List.not_mem_nil), ?_⟩ ?_ ?_ ?_⟩
    · rw [show mOf [] * prodI (S.drop 0) = prodI F by rw [List.drop_zero, hSp]; exact Nat.one_mul _]
      rfl
    · rw [show mOf [] * prodI (S.drop 0) = prodI F by rw [List.drop_zero, hSp]; exact Nat.one_mul _]
      exact r3
    · rintro i σ H' _ ⟨pw, as, x8, x9, x11, rfl, st, e1, _⟩
      exact SqL.of e1
    · rintro i v σ H' hv ⟨pw, as, x8, x9, x11, rfl, st, e1, e2, tu, hmap, hpos, hlt⟩
      rw [List.getElem?_map, List.getElem?_map] at hv
      obtain ⟨p, hp, rfl⟩ : ∃ p, S[i]? = some p ∧ V.int (p : Int) = v := by
        cases e : S[i]? with
        | none => rw [e] at hv; cases hv
        | some y => rw [e] at hv; exact ⟨y, rfl, Option.some.inj hv⟩
      have pPN := hSPN p (List.mem_of_getElem? hp)
      have p2 := PN_lt p pPN
      have hdrop : S.drop i = p :: S.drop (i + 1) := by
        obtain ⟨hi, rfl⟩ := List.getElem?_eq_some_iff.mp hp
        exact List.drop_eq_getElem_cons hi
      have hprod : mOf pw * prodI (S.drop i) = mOf pw * p ^ 1 * prodI (S.drop (i + 1)) := by
        rw [hdrop, prodI_cons, Nat.pow_one, Nat.mul_assoc]
      refine ⟨_, rfl, ?_⟩
      refine ⟨fun σ H3 => ∃ (k : Nat) (x8 : Option V), 1 ≤ k ∧ σ = [some (.ref d), some (.int (B : Int)), some (.int 1000), some (.ref so), some (.int ((mOf pw * p ^ k * prodI (S.drop (i + 1)) : Nat) : Int)), some (.int (rest : Int)), some (.ref fo), some (.int way), x8, some (.int (p : Int)), some (.ref pa), some (.int ((p ^ k : Nat) : Int))] ∧ Stp d l H H3 ∧ H3 sl = some (.lst ((intsN S).map V.int)) ∧ H3 pa = some (.lst (as.map V.ref)) ∧ Tups K H3 as pw ∧ mOf pw * p ^ k * prodI (S.drop (i + 1)) < B, ?_, ?_⟩
      · refine ⟨_, rfl, (by show 4 ≤ sizeLine; decide), fun z nz => ?_⟩
        have sz := same_new nz (.lst [V.int 1, V.int 3, V.int 14, V.int 140])
        obtain ⟨n, hn, n1, n2⟩ : ∃ n : Nat, atI [V.int 1, V.int 3, V.int 14, V.int 140] way = some (.int (n : Int)) ∧ 1 ≤ n ∧ n ≤ 140 := by
          rcases (show way = 0 ∨ way = 1 ∨ way = 2 ∨ way = 3 by omega) with rfl | rfl | rfl | rfl
          · exact ⟨1, rfl, by decide, by decide⟩
          · exact ⟨3, rfl, by decide, by decide⟩
          · exact ⟨14, rfl, by decide, by decide⟩
          · exact ⟨140, rfl, by decide, by decide⟩
        refine ⟨_, rfl, z, _, _, _, rfl, rfl, SqL.of upd_same, hn, d, l, _, rfl, (st.post.same sz), by omega, small n (by omega), fun v H3 v0 v1 st3 => ?_⟩
        have stt := (st.same sz).trans st3
        refine ⟨v, rfl, by omega, by omega, for_range (lo := 0) (n := v.toNat) (fun j σ H3 => ∃ (k : Nat) (x8 : Option V), 1 ≤ k ∧ σ = [some (.ref d), some (.int (B : Int)), some (.int 1000), some (.ref so), some (.int ((mOf pw * p ^ k * prodI (S.drop (i + 1)) : Nat) : Int)), some (.int (rest : Int)), some (.ref fo), some (.int way), x8, some (.int (p : Int)), some (.ref pa), some (.int ((p ^ k : Nat) : Int))] ∧ Stp d l H H3 ∧ H3 sl = some (.lst ((intsN S).map V.int)) ∧ H3 pa = some (.lst (as.map V.ref)) ∧ Tups K H3 as pw ∧ mOf pw * p ^ k * prodI (S.drop (i + 1)) < B) ⟨1, x8, Nat.le_refl _, ?_, stt, st3.lst nsll (sz _ _ e1), st3.lst npl (sz _ _ e2), (tu.same sz).stp st3, by rw [← hprod]; exact hlt⟩ ?_ ?_⟩
        · rw [← hprod, Nat.pow_one]
          rfl
        · rintro j σ H5 _ ⟨k, x8, k1, rfl, st5, f1, f2, tu5, lt5⟩
          refine ⟨_, rfl, _, rfl, _, _, rfl, rfl, .inr ⟨by omega, by omega⟩, _, rfl, _, _, rfl, rfl, _, rfl, ite2 (fun c => ?_) (fun c => ?_)⟩
          · have c : ((mOf pw * p ^ k * prodI (S.drop (i + 1)) : Nat) : Int) * (p : Int) < (B : Int) := of_decide_eq_true c
            have e3 : mOf pw * p ^ (k + 1) * prodI (S.drop (i + 1)) = mOf pw * p ^ k * prodI (S.drop (i + 1)) * p := by
              rw [Nat.pow_succ]
              simp only [Nat.mul_assoc, Nat.mul_comm, Nat.mul_left_comm]
            refine ⟨_, rfl, _, rfl, _, _, rfl, rfl, .inr ⟨by omega, by omega⟩, _, rfl, _, rfl, _, _, rfl, rfl, .inr ⟨by omega, by omega⟩, _, _, rfl, ?_⟩
            refine ⟨k + 1, some (.int (0 + (j : Int))), by omega, ?_, st5, f1, f2, tu5, ?_⟩
            · rw [e3, Nat.pow_succ, Int.natCast_mul (_ * _ * _) p, Int.natCast_mul (p ^ k) p]
              rfl
            · rw [e3]
              rw [← Int.natCast_mul] at c
              omega
          · exact ⟨k, _, k1, rfl, st5, f1, f2, tu5, lt5⟩
        · rintro σ H5 ⟨k, x8, k1, rfl, st5, f1, f2, tu5, lt5⟩
          exact ⟨k, x8, k1, rfl, st5, f1, f2, tu5, lt5⟩
      · rintro σ H5 ⟨k, x8, k1, rfl, st5, f1, f2, tu5, lt5⟩
        refine ⟨_, rfl, .inl ⟨rfl, _, SqL.of f2⟩, _, rfl, _, rfl, (by show 2 ≤ sizeLine; decide), fun tq ntq => ?_⟩
        have stq := same_new ntq (.tup [V.int (p : Int), V.int ((p ^ k : Nat) : Int)])
        have g2 := stq _ _ f2
        have g1 := stq _ _ f1
        have al : as.length = i := by
          have := congrArg List.length hmap
          simp only [List.length_map, List.length_take] at this
          have hi := (List.getElem?_eq_some_iff.mp hp).1
          rw [tu5.1]
          omega
        have hi10 : i < 10 := by
          have hi := (List.getElem?_eq_some_iff.mp hp).1
          have := hsub.length_le
          have : S.length ≤ 10 := this
          omega
        refine ⟨pa, _, _, rfl, rfl, g2, ?_, ?_⟩
        · rw [List.length_map, al]
          exact Nat.lt_of_lt_of_le hi10 (by decide)
        refine ⟨pw ++ [(p, k)], as ++ [tq], x8, some (.int (p : Int)), some (.int ((p ^ k : Nat) : Int)), ?_, (st5.same stq).upd npa0, ?_, ?_, ?_, ?_, ?_, ?_⟩
        · rw [mOf_append]
        · rw [upd_ne nslpa]
          exact g1
        · rw [upd_same, List.map_append]
          rfl
        · exact ((tu5.same stq).snoc (x := (p, k)) (SqT.of upd_same)).updL g2
        · rw [List.map_append, hmap, List.take_add_one, hp]
          rfl
        · intro x hx
          rcases List.mem_append.mp hx with z | z
          · exact hpos x z
          · rw [List.mem_singleton.mp z]
            exact k1
        · rw [mOf_append]
          exact lt5
    · rintro σ H' ⟨pw, as, x8, x9, x11, rfl, st, e1, e2, tu, hmap, hpos, hlt⟩
      have eL : ((intsN S).map V.int).length = S.length := by simp
      rw [eL] at hmap hlt
      rw [List.take_length] at hmap
      rw [List.drop_length] at hlt
      have hPw : Pw pw := ⟨by rw [hmap]; exact hsub, hpos⟩
      refine ⟨_, rfl, q pa pw H' st npl ⟨hPw, ?_, ?_⟩ ⟨as, SqL.of e2, tu.1, tu.2⟩⟩
      · rw [prodP_map, hmap, hSp]
        exact r2
      · rw [← hB]
        have : prodI [] = 1 := rfl
        rw [this, Nat.mul_one] at hlt
        exact hlt
theorem cl__law_powers {X : Cx} {p pos : Pos} {e : Expr} {es : List Expr} {t : TA} (T : Txt K mg) (hr : Room 3 X.A) (ha : PA X (e :: es) t) (hg : Gl X "_law_powers" := by rfl)
    (he : starEach (e :: es) X.env = (false, eval e X.env) :: starEach es X.env := by rfl) (hpl : (backTo pos (starEach es X.env)).any (·.1) = false := by rfl) (hK : X.K = K := by rfl) (hmg : X.mg = mg := by rfl) :
    PE X (.Call (.Name "_law_powers" p) (e :: es) [] pos) (tCall (sp__law_powers K) [] E0 t) := by
  subst hK hmg
  exact pe_call (ok__law_powers T) hr hg T.m__law_powers T.F__law_powers.kp T.b__law_powers .nil pass0 ha (by decide) he hpl
end
end KL
namespace KL
open PySem PySem.Spec PyProof.Rows L2 RZ StX SrtO Kw KM
theorem dot_cons (c x : Int) (cs xs : List Int) : dotI (c :: cs) (x :: xs) = c * x + dotI cs xs := by
  unfold dotI
  rw [List.zipWith_cons_cons, List.sum_cons]
theorem dot_mov : ∀ (cs xs ts : List Int) (k : Int), xs.length = ts.length → dotI cs (movI xs ts k) = dotI cs xs + k * dotI cs ts
  | [], xs, ts, k, _ => by simp [dotI]
  | c :: cs, [], [], k, _ => by simp [dotI, movI]
  | c :: cs, x :: xs, t :: ts, k, h => by
    have ih := dot_mov cs xs ts k (by simpa using h)
    show dotI (c :: cs) ((x + k * t) :: movI xs ts k) = _
    rw [dot_cons, dot_cons, dot_cons, ih, Int.mul_add, Int.mul_add]
    have : c * (k * t) = k * (c * t) := by rw [← Int.mul_assoc, Int.mul_comm c k, Int.mul_assoc]
    rw [this]
    omega
theorem mov_len {xs ts : List Int} {k : Int} (h : xs.length = ts.length) : (movI xs ts k).length = xs.length := by
  unfold movI
  rw [List.length_zipWith]
  omega
theorem mov_bd {xs ts : List Int} {k : Int} (hx : ∀ x ∈ xs, Bd 1000 x) (ht : ∀ t ∈ ts, Bd 400 t) (hk : Bd 400 k) : ∀ y ∈ movI xs ts k, Bd 2000 y := by
  intro y hy
  unfold movI at hy
  obtain ⟨i, hi, e⟩ := List.mem_iff_getElem.mp hy
  rw [List.getElem_zipWith] at e
  rw [← e]
  have h1 := hx _ (List.getElem_mem (l := xs) (n := i) (by rw [List.length_zipWith] at hi; omega))
  have h2 := ht _ (List.getElem_mem (l := ts) (n := i) (by rw [List.length_zipWith] at hi; omega))
  exact (Bd.add (h1.mono (by decide : 1000 ≤ 1000)) ((hk.mul h2).mono (by decide : 400 + 400 ≤ 1000))).mono (by decide)
/-- how often a stripe comes again -/
theorem again {m : Nat} (hm : 1 ≤ m) (D k : Int) : (m : Int) ∣ k * D ↔ ((m / Nat.gcd m D.natAbs : Nat) : Int) ∣ k := by
  have g0 : 0 < Nat.gcd m D.natAbs := Nat.gcd_pos_of_pos_left _ (by omega)
  obtain ⟨a, ea⟩ := Nat.gcd_dvd_left m D.natAbs
  obtain ⟨b, eb⟩ := Nat.gcd_dvd_right m D.natAbs
  have hc : Nat.Coprime (m / Nat.gcd m D.natAbs) (D.natAbs / Nat.gcd m D.natAbs) := Nat.coprime_div_gcd_div_gcd g0
  generalize Nat.gcd m D.natAbs = g at *
  have e1 : m / g = a := by rw [ea]; exact Nat.mul_div_cancel_left _ g0
  have e2 : D.natAbs / g = b := by rw [eb]; exact Nat.mul_div_cancel_left _ g0
  rw [e1] at hc ⊢
  rw [e2] at hc
  have q1 : (m : Int) ∣ k * D ↔ m ∣ k.natAbs * D.natAbs := by rw [← Int.natAbs_mul]; exact Int.ofNat_dvd_left
  have q2 : (a : Int) ∣ k ↔ a ∣ k.natAbs := Int.ofNat_dvd_left
  rw [q1, q2, ea, eb]
  constructor
  · intro h
    have h2 : g * a ∣ g * (k.natAbs * b) := by
      have : k.natAbs * (g * b) = g * (k.natAbs * b) := by rw [Nat.mul_left_comm]
      rwa [this] at h
    exact hc.dvd_of_dvd_mul_right (Nat.dvd_of_mul_dvd_mul_left g0 h2)
  · intro h
    rw [Nat.mul_left_comm]
    exact Nat.mul_dvd_mul_left g (Nat.dvd_trans h (Nat.dvd_mul_right _ _))
theorem emod_iff {m : Nat} {z : Int} : z % (m : Int) = 0 ↔ (m : Int) ∣ z := Int.dvd_iff_emod_eq_zero.symm
/-- from a cell that lies on the stripe -/
theorem due_of {m : Nat} (hm : 1 ≤ m) {cs xs ts : List Int} {r k : Int} (hl : xs.length = ts.length) (on : (dotI cs xs - r) % (m : Int) = 0) :
    (dotI cs (movI xs ts k) - r) % (m : Int) = 0 ↔ ((m / Nat.gcd m (dotI cs ts).natAbs : Nat) : Int) ∣ k := by
  rw [dot_mov cs xs ts k hl, emod_iff, ← again hm (dotI cs ts) k]
  have e : dotI cs xs + k * dotI cs ts - r = (dotI cs xs - r) + k * dotI cs ts := by omega
  rw [e]
  exact Int.dvd_add_right (emod_iff.mp on)
end KL
namespace KL
open PySem PySem.Spec PyProof.Rows L2 RZ StX SrtO Kw KM
/-! ### mathematics of products across -/
section
variable {P : Program} {w : World} {K : PySem.W.Frag} {mg : Str → Option Value} {base : Heap}
def sp__law_comes_again (K : PySem.W.Frag) : Sp := fun vs H Q _ => ∃ (d l a b c : Addr) (pw : List (Nat × Nat)) (cs xs ts : List Int) (r : Int), vs = [.ref d, .ref a, .ref b, .ref c] ∧ DeckAt H d l ∧ PerD pw ∧ SAt K H a (mOf pw) cs r ∧ SOk pw cs r ∧
  SqT K H b (xs.map V.int) ∧ SqT K H c (ts.map V.int) ∧ cs.length = xs.length ∧ xs.length = ts.length ∧ (∀ x ∈ xs, Bd 1000 x) ∧ (∀ t ∈ ts, Bd 200 t) ∧ (dotI cs xs - r) % (mOf pw : Nat) = 0 ∧
  ∀ H', Stp d l H H' → Q (.bl true) H'
theorem ok__law_comes_again (T : Txt K mg) : GFn P w K mg base 7 T.a__law_comes_again T.d__law_comes_again ["_law_deck_here", "_law_stripe", "_law_x", "_law_t"] (sp__law_comes_again K) := by
  refine gfn_of T.F__law_comes_again sc__law_comes_again (fun vs H Q E h => ?_) (fun cdv A outer s H vs Q E hq hr h => ?_)
  · obtain ⟨d, l, a, b, c, pw, cs, xs, ts, r, rfl, _⟩ := h
    rfl
  obtain ⟨d, l, a, b, c, pw, cs, xs, ts, r, rfl, hD, hP, hA, hO, hb, hc, l1, l2, xb, tb, on, q⟩ := h
  refine ⟨_, pss_cons (ps_asg (pv 1) (pg_tup (by rfl) (pgs_cons (pg_name (i := 4) sc__law_comes_again.nd rfl (Or.inl rfl)) (pgs_cons (pg_name (i := 5) sc__law_comes_again.nd rfl (Or.inl rfl)) (pgs_cons (pg_name (i := 6) sc__law_comes_again.nd rfl (Or.inl rfl)) pgs_nil)))))
    (pss_cons (ps_set (i := 7) sc__law_comes_again.nd rfl (Or.inl rfl) (pe_op op_fdivW (pv 4) (cl__law_common T (hr.mono (by decide)) (pa_cons (pv 4) (pa_cons (cl__law_along T (hr.mono (by decide)) (pa_cons (pv 5) (pa_cons (pv 3) pa_nil))) pa_nil)))))
    (pss_cons (ps_for PassesOwn.never rfl (pi_tup (pe_tup (pa_cons pe_int (pa_cons pe_int (pa_cons (pv 7) (pa_cons (pe_un un_neg (pv 7)) (pa_cons (pe_op op_add (pv 7) pe_int) (pa_cons (pe_op op_mulW (pv 7) (cl__law_draw T (hr.mono (by decide)) (pa_cons (pv 0) (pa_cons pe_int pa_nil)))) (pa_cons (cl__law_great T (hr.mono (by decide)) (pa_cons (pv 0) (pa_cons (pv 7) pa_nil))) (pa_cons (pe_op op_sub (pe_un un_neg (cl__law_great T (hr.mono (by decide)) (pa_cons (pv 0) (pa_cons (pv 7) pa_nil)))) pe_int) pa_nil)))))))))) (pg_name (i := 8) sc__law_comes_again.nd rfl (Or.inl rfl)) (pss_one (ps_if (pt_not (pt_val (cl__law_is_due T hq (hr.mono (by decide)) (pa_cons (pv 1) (pa_cons (cl__law_moved T (hr.mono (by decide)) (pa_cons (pv 2) (pa_cons (pv 3) (pa_cons (pv 8) pa_nil)))) (pa_cons (pe_cmpR op_eq (pe_op op_mod (pe_callTy call_int1 (by rfl) T.n_int (by decide +kernel) (pa_cons (pv 8) pa_nil)) (pv 7)) pe_int (nomark _)) pa_nil)))))) (pss_one (ps_ret pe_bl)) pss_nil)))
    (pss_cons (ps_for PassesOwn.never rfl (pi_tup (pe_tup (pa_cons pe_int (pa_cons pe_int (pa_cons pe_int (pa_cons pe_int (pa_cons pe_int (pa_cons pe_int (pa_cons pe_int (pa_cons pe_int (pa_cons pe_int (pa_cons pe_int pa_nil)))))))))))) (pg_name (i := 9) sc__law_comes_again.nd rfl (Or.inl rfl)) (pss_one (ps_if (PW.pt (pw_and (pt_cmpR op_eq (pe_op op_mod (pe_callTy call_int1 (by rfl) T.n_int (by decide +kernel) (pa_cons (pv 7) pa_nil)) (pv 9)) pe_int (nomark _)) (pw_and1 (pt_not (pt_val (cl__law_is_due T hq (hr.mono (by decide)) (pa_cons (pv 1) (pa_cons (cl__law_moved T (hr.mono (by decide)) (pa_cons (pv 2) (pa_cons (pv 3) (pa_cons (pe_op op_fdivW (pv 7) (pv 9)) pa_nil)))) (pa_cons pe_bl pa_nil))))))))) (pss_one (ps_ret pe_bl)) pss_nil)))
    (pss_one (ps_ret pe_bl))))), ?_⟩
  obtain ⟨c0, ha, hc0⟩ := hA.at_
  have hm := mOf_pos hP.ok
  have hlt := hP.lt
  have bm : Bd 133 ((mOf pw : Nat) : Int) := by
    unfold Bd
    have : (10 : Nat) ^ 40 < 2 ^ 133 := by decide
    omega
  have l3 := hO.l3
  refine ⟨_, rfl, a, _, rfl, ha, rfl, _, _, rfl, _, _, rfl, _, _, rfl, rfl, ?_⟩
  refine ⟨_, rfl, _, rfl, _, rfl, _, rfl, c0, c, cs, ts, rfl, hc0, hc, by omega, l3, hO.bd, fun t ht => (tb t ht).mono (by decide), fun H1 s1 => ?_⟩
  refine ⟨_, _, rfl, ?_⟩
  have g0 : 0 < Nat.gcd (mOf pw) (dotI cs ts).natAbs := Nat.gcd_pos_of_pos_left _ (by omega)
  have gle : Nat.gcd (mOf pw) (dotI cs ts).natAbs ≤ mOf pw := Nat.le_of_dvd (by omega) (Nat.gcd_dvd_left _ _)
  have en : (((mOf pw : Nat) : Int) / ((Nat.gcd ((mOf pw : Nat) : Int).natAbs (dotI cs ts).natAbs : Nat) : Int)) = ((mOf pw / Nat.gcd (mOf pw) (dotI cs ts).natAbs : Nat) : Int) := by
    rw [Int.natAbs_natCast, Int.natCast_ediv]
  have n1 : 1 ≤ mOf pw / Nat.gcd (mOf pw) (dotI cs ts).natAbs := (Nat.le_div_iff_mul_le g0).mpr (by omega)
  have nle : mOf pw / Nat.gcd (mOf pw) (dotI cs ts).natAbs ≤ mOf pw := Nat.div_le_self _ _
  have due := fun k => due_of (k := k) hm l2 on
  refine ⟨_, _, rfl, rfl, Bd.divOk (b := 133) (by rw [Int.natAbs_natCast]; omega) (by rw [Int.natAbs_natCast]; exact Bd.le (by omega) (by omega) bm) (by decide) _, ?_⟩
  dsimp only
  rw [en]
  generalize hn : mOf pw / Nat.gcd (mOf pw) (dotI cs ts).natAbs = n at *
  have st1 := hD.stp s1
  have bn : Bd 133 (n : Int) := by unfold Bd at *; omega
  have small : ∀ m : Nat, m < 100000 → Bd 2000 (m : Int) := fun m h => bdN (n := m) (by omega) (by omega) (Nat.lt_of_lt_of_le h (by decide))
  -- the eight multiples
  refine ⟨_, rfl, _, rfl, _, rfl, _, rfl, _, _, rfl, rfl, _, rfl, _, rfl, d, l, 90000, rfl, st1.post, by decide, small 90000 (by decide), fun v1 H2 v10 v11 st2 => ?_⟩
  have bv1 : Bd 17 v1 := by unfold Bd; omega
  refine ⟨_, _, rfl, rfl, bn.mulOk bv1, ?_⟩
  have st12 := st1.trans st2
  refine ⟨_, rfl, _, rfl, d, l, _, rfl, st12.post, by omega, bn.mono (b := 1000) (by decide), fun v2 H3 v20 v21 st3 => ?_⟩
  have st13 := st12.trans st3
  refine ⟨_, rfl, _, rfl, d, l, _, rfl, st13.post, by omega, bn.mono (b := 1000) (by decide), fun v3 H4 v30 v31 st4 => ?_⟩
  have st14 := st13.trans st4
  refine ⟨_, rfl, _, _, rfl, rfl, (by show 8 ≤ sizeLine; decide), fun tu ntu => ?_⟩
  have bz : ∀ z : Int, -(n : Int) - 1 ≤ z → z ≤ n + 1 → Bd 400 z := by
    intro z z1 z2
    refine Bd.mono (a := 134) ?_ (by decide)
    unfold Bd at *
    rw [show (2 : Nat) ^ 134 = 2 ^ 133 * 2 by decide]
    have : (4 : Nat) ≤ 2 ^ 133 := by decide
    omega
  have allK : ∀ v ∈ [V.int 0, V.int 1, V.int (n : Int), V.int (-(n : Int)), V.int ((n : Int) + 1), V.int ((n : Int) * v1), V.int v2, V.int (-v3 - 1)], ∃ k : Int, v = .int k ∧ Bd 400 k := by
    intro v hv
    simp only [List.mem_cons, List.not_mem_nil, or_false] at hv
    rcases hv with rfl | rfl | rfl | rfl | rfl | rfl | rfl | rfl
    · exact ⟨_, rfl, bz _ (by omega) (by omega)⟩
    · exact ⟨_, rfl, bz _ (by omega) (by omega)⟩
    · exact ⟨_, rfl, bz _ (by omega) (by omega)⟩
    · exact ⟨_, rfl, bz _ (by omega) (by omega)⟩
    · exact ⟨_, rfl, bz _ (by omega) (by omega)⟩
    · exact ⟨_, rfl, (bn.mul bv1).mono (by decide)⟩
    · exact ⟨_, rfl, bz _ (by omega) (by omega)⟩
    · exact ⟨_, rfl, bz _ (by omega) (by omega)⟩
  have st5 := st14.same (same_new ntu (.tup [V.int 0, V.int 1, V.int (n : Int), V.int (-(n : Int)), V.int ((n : Int) + 1), V.int ((n : Int) * v1), V.int v2, V.int (-v3 - 1)]))
  have etu : SqT K (upd H4 tu (.tup [V.int 0, V.int 1, V.int (n : Int), V.int (-(n : Int)), V.int ((n : Int) + 1), V.int ((n : Int) * v1), V.int v2, V.int (-v3 - 1)])) tu [V.int 0, V.int 1, V.int (n : Int), V.int (-(n : Int)), V.int ((n : Int) + 1), V.int ((n : Int) * v1), V.int v2, V.int (-v3 - 1)] := SqT.of upd_same
  generalize hH5 : upd H4 tu (.tup [V.int 0, V.int 1, V.int (n : Int), V.int (-(n : Int)), V.int ((n : Int) + 1), V.int ((n : Int) * v1), V.int v2, V.int (-v3 - 1)]) = H5 at st5 etu
  generalize [V.int 0, V.int 1, V.int (n : Int), V.int (-(n : Int)), V.int ((n : Int) + 1), V.int ((n : Int) * v1), V.int v2, V.int (-v3 - 1)] = ks at etu allK
  refine ⟨tu, rfl, ⟨_, etu⟩, for_tup (xs := ks) (fun i σ H' => ∃ x8 x9 : Option V, σ = [some (.ref d), some (.ref a), some (.ref b), some (.ref c), some (.int ((mOf pw : Nat) : Int)), some (.ref c0), some (.int r), some (.int (n : Int)), x8, x9] ∧ Stp d l H H' ∧ SqT K H' tu ks) ⟨none, none, rfl, st5, etu⟩ ?_ ?_ ?_⟩
  · rintro i σ H' _ ⟨_, _, rfl, _, e⟩
    exact e
  · rintro i v σ H' hv ⟨x8, x9, rfl, st, et⟩
    obtain ⟨k, rfl, bk⟩ := allK v (List.mem_of_getElem? hv)
    refine ⟨_, rfl, _, rfl, _, rfl, _, rfl, ?_⟩
    have hv : (decide (V.int (k % (n : Int)) = V.int 0) = true ↔ (n : Int) ∣ k) := by
      rw [decide_eq_true_iff, ← emod_iff]
      exact ⟨V.int.inj, fun h => congrArg V.int h⟩
    refine ⟨b, c, xs, ts, k, rfl, st.sqt hb, st.sqt hc, l2, by omega, fun t ht => (tb t ht).mono (by decide), bk.mono (by decide), fun p H3 s3 np ep => ?_⟩
    have st3 := st.same s3
    refine ⟨_, rfl, .inl ⟨_, rfl, _, rfl, _, _, rfl, rfl, (show (0 : Int) < n by omega), rfl, ?_⟩⟩
    refine ⟨a, p, pw, cs, movI xs ts k, r, _, rfl, hA.stp st3, hO, ep, by rw [mov_len l2]; exact l1, mov_bd xb (fun t ht => (tb t ht).mono (by decide)) bk, ?_, fun H4 s4 => ⟨true, rfl, iteF ?_⟩⟩
    · rw [Bool.eq_iff_iff, hv, decide_eq_true_iff, due k]
    · exact ⟨_, _, rfl, st3.same s4, (s3.trans s4).sqt et⟩
  · rintro σ H' ⟨x8, x9, rfl, st, et⟩
    -- the primes of the number
    refine ⟨(by show 10 ≤ sizeLine; decide), fun t2 nt2 => ?_⟩
    have st6 := st.same (same_new nt2 (.tup ((intsN PN).map V.int)))
    have e2 : SqT K (upd H' t2 (.tup ((intsN PN).map V.int))) t2 ((intsN PN).map V.int) := SqT.of upd_same
    generalize hH6 : upd H' t2 (.tup ((intsN PN).map V.int)) = H6 at st6 e2
    refine ⟨t2, rfl, ⟨_, hH6 ▸ e2⟩, for_tup (xs := (intsN PN).map V.int) (fun i σ H' => ∃ x8 x9 : Option V, σ = [some (.ref d), some (.ref a), some (.ref b), some (.ref c), some (.int ((mOf pw : Nat) : Int)), some (.ref c0), some (.int r), some (.int (n : Int)), x8, x9] ∧ Stp d l H H' ∧ SqT K H' t2 ((intsN PN).map V.int)) ⟨x8, x9, rfl, hH6 ▸ st6, hH6 ▸ e2⟩ ?_ ?_ ?_⟩
    · rintro i σ H' _ ⟨_, _, rfl, _, e⟩
      exact e
    · rintro i v σ H7 hv ⟨x8, x9, rfl, st7, e7⟩
      obtain ⟨z, hz, rfl⟩ := List.mem_map.mp (List.mem_of_getElem? hv)
      obtain ⟨p, hp, rfl⟩ := List.mem_map.mp hz
      have p2 := PN_lt p hp
      refine ⟨_, rfl, .inl ⟨_, rfl, _, rfl, _, _, rfl, rfl, (show (0 : Int) < p by omega), rfl, _, rfl, ite2 (fun cc => ?_) (fun cc => ?_)⟩⟩
      · have cc : (n : Int) % (p : Int) = 0 := V.int.inj (of_decide_eq_true cc)
        have pd : p ∣ n := Nat.dvd_of_mod_eq_zero (by omega)
        have bnp : Bd 400 ((n : Int) / (p : Int)) := by
          rw [← Int.natCast_ediv]
          have := Nat.div_le_self n p
          generalize n / p = w at this
          exact bz _ (by omega) (by omega)
        have nd : ¬ (n : Int) ∣ (n : Int) / (p : Int) := by
          rw [← Int.natCast_ediv, Int.natCast_dvd_natCast]
          intro z
          have lt : n / p < n := Nat.div_lt_self (by omega) (by omega)
          have ge : 1 ≤ n / p := (Nat.le_div_iff_mul_le (by omega)).mpr (by have := Nat.le_of_dvd (by omega) pd; omega)
          have := Nat.le_of_dvd (by omega) z
          omega
        refine ⟨_, rfl, _, rfl, _, rfl, _, rfl, _, rfl, _, _, rfl, rfl, Bd.divOk (b := 5) (by omega) (by unfold Bd; omega) (by decide) _, ?_⟩
        refine ⟨b, c, xs, ts, (n : Int) / (p : Int), rfl, st7.sqt hb, st7.sqt hc, l2, by omega, fun t ht => (tb t ht).mono (by decide), bnp.mono (by decide), fun pp H8 s8 np ep => ?_⟩
        have st8 := st7.same s8
        refine ⟨a, pp, pw, cs, movI xs ts ((n : Int) / (p : Int)), r, false, rfl, hA.stp st8, hO, ep, by rw [mov_len l2]; exact l1, mov_bd xb (fun t ht => (tb t ht).mono (by decide)) bnp, ?_, fun H9 s9 => ⟨true, rfl, iteF ?_⟩⟩
        · symm
          rw [decide_eq_false_iff_not, due]
          exact nd
        · exact ⟨_, _, rfl, st8.same s9, (s8.trans s9).sqt e7⟩
      · exact ⟨_, _, rfl, st7, e7⟩
    · rintro σ H7 ⟨x8, x9, rfl, st7, e7⟩
      exact q H7 st7
theorem cl__law_comes_again {X : Cx} {p pos : Pos} {e : Expr} {es : List Expr} {t : TA} (T : Txt K mg) (hq : Quiet X.A) (hr : Room 7 X.A) (ha : PA X (e :: es) t) (hg : Gl X "_law_comes_again" := by rfl)
    (he : starEach (e :: es) X.env = (false, eval e X.env) :: starEach es X.env := by rfl) (hpl : (backTo pos (starEach es X.env)).any (·.1) = false := by rfl) (hK : X.K = K := by rfl) (hmg : X.mg = mg := by rfl) :
    PE X (.Call (.Name "_law_comes_again" p) (e :: es) [] pos) (tCall (sp__law_comes_again K) [] E0 t) := by
  subst hK hmg
  exact pe_callG (ok__law_comes_again T) hq hr hg T.m__law_comes_again T.F__law_comes_again.kp T.b__law_comes_again .nil ha (by decide) he hpl
end
end KL
namespace KL
open PySem PySem.Spec PyProof.Rows L2 RZ StX SrtO Kw KM
theorem gcdL_dvd : ∀ (cs : List Int) (m : Int), (gcdL m cs).natAbs ∣ m.natAbs ∧ ∀ c ∈ cs, (gcdL m cs).natAbs ∣ c.natAbs
  | [], m => ⟨Nat.dvd_refl _, fun c h => absurd h List.not_mem_nil⟩
  | x :: r, m => by
    have ih := gcdL_dvd r ((Nat.gcd m.natAbs x.natAbs : Nat) : Int)
    have e : gcdL m (x :: r) = gcdL ((Nat.gcd m.natAbs x.natAbs : Nat) : Int) r := rfl
    rw [e]
    have d := ih.1
    rw [Int.natAbs_natCast] at d
    refine ⟨Nat.dvd_trans d (Nat.gcd_dvd_left _ _), fun c hc => ?_⟩
    rcases List.mem_cons.mp hc with rfl | hc
    · exact Nat.dvd_trans d (Nat.gcd_dvd_right _ _)
    · exact ih.2 c hc
theorem gcdL_nonneg : ∀ (cs : List Int) (m : Int), 0 ≤ m → 0 ≤ gcdL m cs
  | [], m, h => h
  | x :: r, m, _ => gcdL_nonneg r _ (Int.natCast_nonneg _)
theorem gcdL_one {pw : List (Nat × Nat)} (h : Pw pw) {cs : List Int} (ok : ∀ x ∈ pw, ∃ c ∈ cs, ¬ (x.1 : Int) ∣ c) : gcdL (mOf pw : Nat) cs = 1 := by
  have d := gcdL_dvd cs ((mOf pw : Nat) : Int)
  rw [Int.natAbs_natCast] at d
  have n0 := gcdL_nonneg cs ((mOf pw : Nat) : Int) (Int.natCast_nonneg _)
  have g1 := prime_in h d.1 fun x hx dv => by
    obtain ⟨c, hc, nd⟩ := ok x hx
    exact nd (Int.ofNat_dvd_left.mpr (Nat.dvd_trans dv (d.2 c hc)))
  omega
theorem gcdL_mem : ∀ (cs : List Int) (m : Int) (p : Nat), p ∣ m.natAbs → (∀ c ∈ cs, p ∣ c.natAbs) → p ∣ (gcdL m cs).natAbs
  | [], m, p, h, _ => h
  | x :: r, m, p, h, hc => by
    refine gcdL_mem r ((Nat.gcd m.natAbs x.natAbs : Nat) : Int) p ?_ fun c h => hc c (List.mem_cons_of_mem _ h)
    rw [Int.natAbs_natCast]
    exact Nat.dvd_gcd h (hc x List.mem_cons_self)
theorem SOk.free {pw : List (Nat × Nat)} {cs : List Int} {r : Int} (h : SOk pw cs r) {x : Nat × Nat} (hx : x ∈ pw) : ∃ c ∈ cs, ¬ (x.1 : Int) ∣ c := by
  have hp := h.per.ok.mem hx
  have p2 := PN_lt _ hp
  refine Classical.byContradiction fun no => ?_
  have all : ∀ c ∈ cs, x.1 ∣ c.natAbs := fun c hc => by
    refine Classical.byContradiction fun nd => no ⟨c, hc, fun z => nd (Int.ofNat_dvd_left.mp z)⟩
  have d := gcdL_mem cs ((mOf pw : Nat) : Int) x.1 (by rw [Int.natAbs_natCast]; exact (dvd_mOf hp h.per.ok).mpr (List.mem_map_of_mem hx)) all
  rw [h.cop] at d
  have := Nat.le_of_dvd (by decide) d
  have : (1 : Int).natAbs = 1 := rfl
  omega
theorem Pw.single {pw : List (Nat × Nat)} (h : Pw pw) {x : Nat × Nat} (hx : x ∈ pw) : Pw [x] :=
  ⟨List.singleton_sublist.mpr (h.mem hx), fun y hy => by rw [List.mem_singleton.mp hy]; exact h.pos x hx⟩
theorem mOf_single (x : Nat × Nat) : mOf [x] = qOf x := Nat.mul_one _
theorem dot_mod (q : Int) : ∀ (cs xs : List Int), (dotI (cs.map fun c => c % q) xs) % q = (dotI cs xs) % q
  | [], xs => rfl
  | c :: cs, [] => rfl
  | c :: cs, x :: xs => by
    have ih := dot_mod q cs xs
    rw [List.map_cons, dot_cons, dot_cons, Int.add_emod, ih, ← Int.add_emod, Int.add_emod, Int.mul_emod, Int.emod_emod, ← Int.mul_emod, ← Int.add_emod]
theorem part_due {q : Int} (cs xs : List Int) (r : Int) : (dotI (cs.map fun c => c % q) xs - r % q) % q = (dotI cs xs - r) % q := by
  rw [Int.sub_emod, dot_mod, Int.emod_emod, ← Int.sub_emod]
/-- a part of a stripe is a stripe -/
theorem SOk.part {pw : List (Nat × Nat)} {cs : List Int} {r : Int} (h : SOk pw cs r) {x : Nat × Nat} (hx : x ∈ pw) :
    SOk [x] (cs.map fun c => c % ((qOf x : Nat) : Int)) (r % ((qOf x : Nat) : Int)) := by
  have hp := h.per.ok.mem hx
  have p2 := PN_lt _ hp
  have ql := qOf_le h.per.ok hx
  have q0 : (0 : Int) < ((qOf x : Nat) : Int) := by omega
  refine ⟨⟨Pw.single h.per.ok hx, ?_, ?_⟩, by simpa using h.l1, by simpa using h.l3, ?_, ?_, ?_⟩
  · show x.1 * 1 ≤ 1000
    omega
  · rw [mOf_single]
    exact Nat.lt_of_le_of_lt ql.2 h.per.bd
  · intro c hc
    obtain ⟨c0, _, rfl⟩ := List.mem_map.mp hc
    rw [mOf_single]
    exact emodB _ q0
  · rw [mOf_single]
    exact emodB _ q0
  · refine gcdL_one (Pw.single h.per.ok hx) fun y hy => ?_
    obtain rfl := List.mem_singleton.mp hy
    obtain ⟨c, hc, nd⟩ := h.free hx
    refine ⟨c % ((qOf y : Nat) : Int), List.mem_map_of_mem hc, fun z => nd ?_⟩
    have pq : (y.1 : Int) ∣ ((qOf y : Nat) : Int) := by
      rw [Int.natCast_dvd_natCast]
      have := h.per.ok.pos y hx
      refine ⟨y.1 ^ (y.2 - 1), ?_⟩
      show y.1 ^ y.2 = _
      rw [Nat.mul_comm, ← Nat.pow_succ]
      congr 1
      omega
    have e := Int.emod_add_mul_ediv c ((qOf y : Nat) : Int)
    rw [← e]
    exact Int.dvd_add z (Int.dvd_trans pq (Int.dvd_mul_right _ _))
end KL
namespace KL
open PySem PySem.Spec PyProof.Rows L2 RZ StX SrtO Kw KM
/-! ### greatest common divisors -/
section
variable {P : Program} {w : World} {K : PySem.W.Frag} {mg : Str → Option Value} {base : Heap}
def sp__law_is_of_parts (K : PySem.W.Frag) : Sp := fun vs H Q _ => ∃ (d l pa a b : Addr) (pw : List (Nat × Nat)) (cs xs : List Int) (r : Int), vs = [.ref d, .ref pa, .ref a, .ref b] ∧ DeckAt H d l ∧ PerD pw ∧ PwAt K H pa pw ∧ pa ≠ l ∧ SAt K H a (mOf pw) cs r ∧ SOk pw cs r ∧
  SqT K H b (xs.map V.int) ∧ cs.length = xs.length ∧ (∀ x ∈ xs, Bd 1000 x) ∧ ∀ H', Stp d l H H' → Q (.bl true) H'
theorem ok__law_is_of_parts (T : Txt K mg) : GFn P w K mg base 7 T.a__law_is_of_parts T.d__law_is_of_parts ["_law_deck_here", "_law_powers_here", "_law_stripe", "_law_x"] (sp__law_is_of_parts K) := by
  refine gfn_of T.F__law_is_of_parts sc__law_is_of_parts (fun vs H Q E h => ?_) (fun cdv A outer s H vs Q E hq hr h => ?_)
  · obtain ⟨d, l, pa, a, b, pw, cs, xs, r, rfl, _⟩ := h
    rfl
  obtain ⟨d, l, pa, a, b, pw, cs, xs, r, rfl, hD, hP, hPa, hal, hA, hO, hb, hl1, xb, q⟩ := h
  refine ⟨_, pss_cons (ps_asg (pv 2) (pg_tup (by rfl) (pgs_cons (pg_name (i := 4) sc__law_is_of_parts.nd rfl (Or.inl rfl)) (pgs_cons (pg_name (i := 5) sc__law_is_of_parts.nd rfl (Or.inl rfl)) (pgs_cons (pg_name (i := 6) sc__law_is_of_parts.nd rfl (Or.inl rfl)) pgs_nil)))))
    (pss_cons (ps_set (i := 7) sc__law_is_of_parts.nd rfl (Or.inl rfl) (cl__law_product T (hr.mono (by decide)) (pa_cons (pe_lc (own := [("_law_p", 10), ("_law_q", 11)]) (g := gTup K 2 (gCons (gName 10) (gCons (gName 11) gNil))) rfl sc__law_is_of_parts.nd (pi_list (pv 1)) (blkOk_by (N := N__law_is_of_parts) (sc := defScope s__law_is_of_parts) (by decide +kernel)) (fun _ _ _ _ _ => (pg_tup (by rfl) (pgs_cons (pg_name (i := 10) sc__law_is_of_parts.nd rfl (Or.inl rfl)) (pgs_cons (pg_name (i := 11) sc__law_is_of_parts.nd rfl (Or.inl rfl)) pgs_nil)))) (fun _ _ _ _ _ => (pts_one (pt_cmpR op_eq (cl__law_draw T (hr.mono (by decide)) (pa_cons (pv 0) (pa_cons pe_int pa_nil))) pe_int (nomark _)))) (fun _ _ _ _ _ => (pv 11))) pa_nil)))
    (pss_cons (ps_set (i := 8) sc__law_is_of_parts.nd rfl (Or.inl rfl) (cl__law_moved T (hr.mono (by decide)) (pa_cons (pv 3) (pa_cons (pe_callTy call_tuple_of (by rfl) T.n_tuple (by decide +kernel) (pa_cons (pe_lc (own := [("_law_at", 13)]) rfl sc__law_is_of_parts.nd (pi_tup (pv 5)) (blkOk_by (N := N__law_is_of_parts) (sc := defScope s__law_is_of_parts) (by decide +kernel)) (fun _ _ _ _ _ => (pg_name (i := 13) sc__law_is_of_parts.nd rfl (Or.inl rfl))) (fun _ _ _ _ _ => pts_nil) (fun _ _ _ _ _ => (cl__law_signed T (hr.mono (by decide)) (pa_cons (pv 0) (pa_cons (pe_op op_pow pe_int pe_int) pa_nil))))) pa_nil)) (pa_cons (pv 7) pa_nil)))))
    (pss_cons (ps_set (i := 9) sc__law_is_of_parts.nd rfl (Or.inl rfl) pe_bl)
    (pss_cons (ps_for PassesOwn.never rfl (pi_list (pv 1)) (pg_tup (by rfl) (pgs_cons (pg_name (i := 10) sc__law_is_of_parts.nd rfl (Or.inl rfl)) (pgs_cons (pg_name (i := 11) sc__law_is_of_parts.nd rfl (Or.inr rfl)) pgs_nil))) (pss_cons (ps_set (i := 12) sc__law_is_of_parts.nd rfl (Or.inl rfl) (pe_cmpR op_eq (pe_op op_mod (pe_callTy call_int1 (by rfl) T.n_int (by decide +kernel) (pa_cons (pe_op op_sub (cl__law_along T (hr.mono (by decide)) (pa_cons (pv 5) (pa_cons (pv 8) pa_nil))) (pv 6)) pa_nil)) (pv 11)) pe_int (nomark _)))
        (Evl.pss_cut (ps_set (i := 9) sc__law_is_of_parts.nd rfl (Or.inl rfl) (pe_and (pv 9) (pe_one (pv 12))))
        (pss_one (ps_if (pt_not (pt_val (cl__law_is_due T hq (hr.mono (by decide)) (pa_cons (pe_tup (pa_cons (pv 11) (pa_cons (pe_callTy call_tuple_of (by rfl) T.n_tuple (by decide +kernel) (pa_cons (pe_lc (own := [("_law_a", 14)]) rfl sc__law_is_of_parts.nd (pi_tup (pv 5)) (blkOk_by (N := N__law_is_of_parts) (sc := defScope s__law_is_of_parts) (by decide +kernel)) (fun _ _ _ _ _ => (pg_name (i := 14) sc__law_is_of_parts.nd rfl (Or.inl rfl))) (fun _ _ _ _ _ => pts_nil) (fun _ _ _ _ _ => (pe_op op_mod (pe_callTy call_int1 (by rfl) T.n_int (by decide +kernel) (pa_cons (pv 14) pa_nil)) (pv 11)))) pa_nil)) (pa_cons (pe_op op_mod (pe_callTy call_int1 (by rfl) T.n_int (by decide +kernel) (pa_cons (pv 6) pa_nil)) (pv 11)) pa_nil)))) (pa_cons (pv 8) (pa_cons (pv 12) pa_nil)))))) (pss_one (ps_ret pe_bl)) pss_nil)))))
    (pss_one (ps_ret (cl__law_is_due T hq (hr.mono (by decide)) (pa_cons (pv 2) (pa_cons (pv 8) (pa_cons (pv 9) pa_nil)))))))))), ?_⟩
  obtain ⟨c0, ha, hc0⟩ := hA.at_
  obtain ⟨as, has, hl, hi⟩ := hPa.ex
  have hm := mOf_pos hP.ok
  have hlt := hP.lt
  have l3 := hO.l3
  have small : ∀ n : Nat, n < 100 → Bd 2000 (n : Int) := fun n h => bdN (n := n) (by omega) (by omega) (Nat.lt_of_lt_of_le h (by decide))
  refine ⟨_, rfl, a, _, rfl, ha, rfl, _, _, rfl, _, _, rfl, _, _, rfl, rfl, ?_⟩
  -- a part of the period
  refine ⟨_, rfl, pa, rfl, ⟨_, has⟩, fun D nD => lc_list (xs := as.map V.ref) (fun i H' => Stp d l H H' ∧ ∃ ns : List Nat, ns.Sublist ((pw.map qOf).take i) ∧ H' D = some (.lst ((intsN ns).map V.int))) ⟨hD.refl.upd nD, [], List.nil_sublist _, upd_same⟩ (fun i H' _ h => h.1.sqlO hal has) (fun i v H' hx h => ?_) (fun H' h => ?_)⟩
  · obtain ⟨st, ns, hsub, hns⟩ := h
    obtain ⟨t, x, ht, hxp, rfl, hilt⟩ := pairs_at hl hx
    have tup := st.sqt (hi i t x ht hxp)
    have hqq : (pw.map qOf)[i]? = some (qOf x) := by rw [List.getElem?_map, hxp]; rfl
    refine ⟨t, _, rfl, tup, rfl, _, _, rfl, _, _, rfl, rfl, rfl, ?_⟩
    refine ⟨_, rfl, d, l, 2, rfl, st.post, by decide, small 2 (by decide), fun v H2 v0 v1 st2 => ?_⟩
    have nDl : D ≠ l := hD.off nD
    have hns2 := st2.lst nDl hns
    have stt := st.trans st2
    refine ⟨rfl, _, rfl, ite2 (fun _ => ?_) (fun _ => ?_)⟩
    · refine ⟨_, rfl, _, hns2, ?_, stt.upd nD, ns ++ [qOf x], ?_, ?_⟩
      · have := hsub.length_le
        have := pw_len hP.ok
        simp only [List.length_map, List.length_take] at *
        exact Nat.lt_of_le_of_lt (show ns.length ≤ 10 by omega) (by decide)
      · rw [List.take_add_one, hqq]
        exact hsub.append (List.Sublist.refl _)
      · rw [upd_same]
        simp [intsN]
    · refine ⟨stt, ns, ?_, hns2⟩
      rw [List.take_add_one]
      exact hsub.trans (List.sublist_append_left _ _)
  obtain ⟨st, ns, hsub, hns⟩ := h
  have hsub' : ns.Sublist (pw.map qOf) := hsub.trans (List.take_sublist _ _)
  obtain ⟨n1, nle⟩ := prodI_sub hP.ok hsub'
  refine ⟨D, ns, rfl, SqL.of hns, n1, Nat.lt_of_le_of_lt nle (Nat.lt_trans hlt (by decide)), ?_⟩
  have bS : Bd 133 ((prodI ns : Nat) : Int) := by
    unfold Bd
    have : (10 : Nat) ^ 40 < 2 ^ 133 := by decide
    omega
  generalize prodI ns = S at bS
  clear hns hsub hsub' n1 nle
  -- the steps
  refine ⟨_, rfl, _, rfl, c0, rfl, ⟨_, st.sqt hc0⟩, fun D2 nD2 => lc_tup (xs := cs.map V.int) (fun i H2 => Stp d l H H2 ∧ ∃ ts : List Int, ts.length = i ∧ (∀ t ∈ ts, Bd 200 t) ∧ H2 D2 = some (.lst (ts.map V.int))) ⟨st.upd (st.free nD2), [], rfl, (fun _ h => absurd h List.not_mem_nil), upd_same⟩ (fun i H2 _ h => h.1.sqt hc0) (fun i v H2 hv h => ?_) (fun H2 h => ?_)⟩
  · obtain ⟨st2, ts, tl, tb, te⟩ := h
    have nf := st.free nD2
    have hi2 : i < cs.length := by
      have := (List.getElem?_eq_some_iff.mp hv).1
      simpa using this
    refine ⟨rfl, yes_ (iteT ?_)⟩
    refine ⟨_, rfl, _, _, rfl, rfl, ⟨by decide, by decide, by decide⟩, d, l, _, rfl, st2.post, by decide, Bd.mono (a := 34) (by unfold Bd; decide) (by decide), fun v H3 v0 v1 st3 => ?_⟩
    have bv : Bd 34 v := by
      have e : (10 : Int) ^ (9 : Int).toNat = 1000000000 := by decide
      rw [e] at v0 v1
      unfold Bd
      omega
    refine ⟨_, st3.lst (hD.off nf) te, ?_, (st2.trans st3).upd nf, ts ++ [v], ?_, ?_, ?_⟩
    · rw [List.length_map, tl]
      exact Nat.lt_of_lt_of_le (show i < 4 by omega) (by decide)
    · rw [List.length_append, tl]
      rfl
    · intro t ht
      rcases List.mem_append.mp ht with k | k
      · exact tb t k
      · rw [List.mem_singleton.mp k]
        exact bv.mono (by decide)
    · rw [upd_same, List.map_append]
      rfl
  obtain ⟨st2, ts, tl, tb, te⟩ := h
  have tl : ts.length = cs.length := by simpa using tl
  refine ⟨D2, _, rfl, .inl ⟨SqL.of te, fun tt ntt => ?_⟩⟩
  have st3 := st2.same (same_new ntt (.tup (ts.map V.int)))
  refine ⟨_, rfl, b, tt, xs, ts, _, rfl, st3.sqt hb, SqT.of upd_same, by omega, by omega, fun t ht => (tb t ht).mono (by decide), bS.mono (by decide), fun y H4 s4 ny ey => ?_⟩
  have st4 := st3.same s4
  have yl : cs.length = (movI xs ts S).length := by rw [mov_len (by omega)]; exact hl1
  have yb : ∀ x ∈ movI xs ts S, Bd 2000 x := mov_bd xb (fun t ht => (tb t ht).mono (by decide)) (bS.mono (by decide))
  generalize movI xs ts (S : Int) = ys at ey yl yb
  generalize (S : Int) = SI
  -- part by part
  refine ⟨_, rfl, pa, rfl, ⟨_, st4.sqlO hal has⟩, for_list (xs := as.map V.ref) (fun i σ H' => ∃ (sure : Bool) (x10 x11 x12 : Option V), σ = [some (.ref d), some (.ref pa), some (.ref a), some (.ref b), some (.int ((mOf pw : Nat) : Int)), some (.ref c0), some (.int r), some (.int SI), some (.ref y), some (.bl sure), x10, x11, x12, none, none] ∧ Stp d l H H' ∧ SqT K H' y (ys.map V.int) ∧ (sure = true ↔ ∀ (j : Nat) (x : Nat × Nat), j < i → pw[j]? = some x → (dotI cs ys - r) % ((qOf x : Nat) : Int) = 0)) ⟨true, none, none, none, rfl, st4, ey, ⟨fun _ _ _ h => absurd h (Nat.not_lt_zero _), fun _ => rfl⟩⟩ ?_ ?_ ?_⟩
  · rintro i σ H' _ ⟨_, _, _, _, rfl, st', _⟩
    exact st'.sqlO hal has
  · rintro i v σ H' hv ⟨sure, x10, x11, x12, rfl, st', ey', hs⟩
    obtain ⟨t, x, ht, hxp, rfl, hilt⟩ := pairs_at hl hv
    have hmem := List.mem_of_getElem? hxp
    have qx := qOf_le hP.ok hmem
    have q0 : (0 : Int) < ((qOf x : Nat) : Int) := by omega
    refine ⟨t, _, rfl, st'.sqt (hi i t x ht hxp), rfl, _, _, rfl, _, _, rfl, rfl, ?_⟩
    refine ⟨_, rfl, _, rfl, c0, y, cs, ys, rfl, st'.sqt hc0, ey', yl, l3, hO.bd, yb, fun H5 s5 => ?_⟩
    have st5 := st'.same s5
    refine ⟨_, rfl, _, _, rfl, rfl, .inl ⟨_, rfl, _, rfl, _, _, rfl, rfl, q0, rfl, ?_⟩⟩
    have hdec : decide (V.int ((dotI cs ys - r) % ((qOf x : Nat) : Int)) = V.int 0) = decide ((dotI cs ys - r) % ((qOf x : Nat) : Int) = 0) := decide_eq_decide.mpr ⟨V.int.inj, fun h => congrArg V.int h⟩
    dsimp only
    rw [hdec]
    generalize hpt : decide ((dotI cs ys - r) % ((qOf x : Nat) : Int) = 0) = part
    have hs2 : (sure && part) = true ↔ ∀ (j : Nat) (y : Nat × Nat), j < i + 1 → pw[j]? = some y → (dotI cs ys - r) % ((qOf y : Nat) : Int) = 0 := by
      rw [Bool.and_eq_true, hs, ← hpt, decide_eq_true_iff]
      constructor
      · rintro ⟨h1, h2⟩ j z hj hz
        by_cases e : j = i
        · subst e
          rw [hxp] at hz
          cases hz
          exact h2
        · exact h1 j z (by omega) hz
      · intro h
        exact ⟨fun j z hj hz => h j z (by omega) hz, h i x (by omega) hxp⟩
    -- sure and is_part
    refine ⟨fun σ H6 => σ = [some (.ref d), some (.ref pa), some (.ref a), some (.ref b), some (.int ((mOf pw : Nat) : Int)), some (.ref c0), some (.int r), some (.int SI), some (.ref y), some (.bl (sure && part)), some (.int (x.1 : Int)), some (.int ((qOf x : Nat) : Int)), some (.bl part), none, none] ∧ H5 = H6, ?_, ?_⟩
    · refine ⟨_, rfl, sure, rfl, ?_⟩
      cases sure with
      | true => exact iteT ⟨_, rfl, rfl, rfl⟩
      | false => exact iteF ⟨rfl, rfl⟩
    rintro σ H6 ⟨rfl, rfl⟩
    -- the part's own stripe
    refine ⟨_, rfl, _, rfl, c0, rfl, ⟨_, st5.sqt hc0⟩, fun D3 nD3 => lc_tup (xs := cs.map V.int) (Lc H5 D3 fun j => ((cs.map fun c => c % ((qOf x : Nat) : Int)).take j).map V.int) (lc_start nD3 rfl) (fun _ _ _ h => h.1.sqt (st5.sqt hc0)) (fun j v H7 hv h => ?_) (fun H7 h => ?_)⟩
    · rw [List.getElem?_map] at hv
      obtain ⟨c, hc, rfl⟩ := Option.map_eq_some_iff.mp hv
      refine ⟨rfl, yes_ (iteT ?_)⟩
      refine ⟨_, rfl, .inl ⟨_, rfl, _, rfl, _, _, rfl, rfl, q0, ?_⟩⟩
      refine lc_leaf nD3 h.1 h.2 (by simp only [List.length_map, List.length_take]; omega) ?_
      rw [List.take_add_one, List.getElem?_map, hc, List.map_append]
      rfl
    · have e7 : H7 D3 = some (.lst ((cs.map fun c => c % ((qOf x : Nat) : Int)).map V.int)) := by
        have this : H7 D3 = some (.lst (((cs.map fun c => c % ((qOf x : Nat) : Int)).take (cs.map V.int).length).map V.int)) := h.2
        rw [List.take_of_length_le (by simp)] at this
        exact this
      refine ⟨D3, _, rfl, .inl ⟨SqL.of e7, fun u nu => ?_⟩⟩
      have s8 := h.1.trans (same_new nu (.tup ((cs.map fun c => c % ((qOf x : Nat) : Int)).map V.int)))
      refine ⟨_, rfl, .inl ⟨_, rfl, _, rfl, _, _, rfl, rfl, q0, (by show 3 ≤ sizeLine; decide), fun w9 nw9 => ?_⟩⟩
      have s9 := s8.trans (same_new nw9 (.tup [V.int ((qOf x : Nat) : Int), V.ref u, V.int (r % ((qOf x : Nat) : Int))]))
      refine ⟨_, rfl, _, rfl, w9, y, [x], cs.map (fun c => c % ((qOf x : Nat) : Int)), ys, r % ((qOf x : Nat) : Int), part, rfl, ⟨u, ?_, ?_⟩, hO.part hmem, (s5.trans s9).sqt ey', by rw [List.length_map]; exact yl, yb, ?_, fun H10 s10 => ⟨true, rfl, iteF ?_⟩⟩
      · rw [mOf_single]
        exact SqT.of upd_same
      · exact (same_new nw9 _).sqt (SqT.of upd_same)
      · rw [mOf_single, part_due, hpt]
      · exact ⟨_, _, _, _, rfl, st5.same (s9.trans s10), ((s5.trans s9).trans s10).sqt ey', hs2⟩
  · rintro σ H' ⟨sure, x10, x11, x12, rfl, st', ey', hs⟩
    rw [List.length_map, hl] at hs
    refine ⟨_, rfl, _, rfl, _, rfl, a, y, pw, cs, ys, r, sure, rfl, hA.stp st', hO, ey', yl, yb, ?_, fun H5 s5 => q H5 (st'.same s5)⟩
    rw [Bool.eq_iff_iff, hs, decide_eq_true_iff, emod_iff, Int.ofNat_dvd_left, ← parts_dvd hP.ok]
    constructor
    · intro h x hx
      obtain ⟨j, hj, e⟩ := List.mem_iff_getElem.mp hx
      have := h j x hj (by rw [← e]; exact List.getElem?_eq_getElem hj)
      exact Int.ofNat_dvd_left.mp (emod_iff.mp this)
    · intro h j x _ hx
      exact emod_iff.mpr (Int.ofNat_dvd_left.mpr (h x (List.mem_of_getElem? hx)))
theorem cl__law_is_of_parts {X : Cx} {p pos : Pos} {e : Expr} {es : List Expr} {t : TA} (T : Txt K mg) (hq : Quiet X.A) (hr : Room 7 X.A) (ha : PA X (e :: es) t) (hg : Gl X "_law_is_of_parts" := by rfl)
    (he : starEach (e :: es) X.env = (false, eval e X.env) :: starEach es X.env := by rfl) (hpl : (backTo pos (starEach es X.env)).any (·.1) = false := by rfl) (hK : X.K = K := by rfl) (hmg : X.mg = mg := by rfl) :
    PE X (.Call (.Name "_law_is_of_parts" p) (e :: es) [] pos) (tCall (sp__law_is_of_parts K) [] E0 t) := by
  subst hK hmg
  exact pe_callG (ok__law_is_of_parts T) hq hr hg T.m__law_is_of_parts T.F__law_is_of_parts.kp T.b__law_is_of_parts .nil ha (by decide) he hpl
end
end KL
namespace KL
open PySem PySem.Spec PyProof.Rows L2 RZ StX SrtO Kw KM
theorem dot_unit (u m : Int) : ∀ (cs xs : List Int), (dotI (cs.map fun c => (u * c) % m) xs) % m = (u * dotI cs xs) % m
  | [], xs => by
    show (0 : Int) % m = (u * dotI [] xs) % m
    rw [show dotI [] xs = 0 from rfl, Int.mul_zero]
  | c :: cs, [] => by
    show (0 : Int) % m = (u * dotI (c :: cs) []) % m
    rw [show dotI (c :: cs) [] = 0 from rfl, Int.mul_zero]
  | c :: cs, x :: xs => by
    have ih := dot_unit u m cs xs
    rw [List.map_cons, dot_cons, dot_cons, Int.mul_add, Int.add_emod, ih, ← Int.mul_assoc]
    rw [Int.mul_emod, Int.emod_emod, ← Int.mul_emod, ← Int.add_emod]
theorem dvd_unit {u m a b : Int} (h : a % m = (u * b) % m) (hb : m ∣ b) : m ∣ a := by
  have : (u * b) % m = 0 := Int.emod_eq_zero_of_dvd (Int.dvd_trans hb (Int.dvd_mul_left _ _))
  rw [this] at h
  exact Int.dvd_of_emod_eq_zero h
theorem natAbs_unit {u : Nat} {p : Nat} {c : Int} (hp : p ∈ PN) (hu : ¬ p ∣ u) (hc : ¬ (p : Int) ∣ c) : ¬ (p : Int) ∣ (u : Int) * c := by
  intro h
  have h := Int.ofNat_dvd_left.mp h
  rw [Int.natAbs_mul, Int.natAbs_natCast] at h
  rcases dvd_mul_of hp h with k | k
  · exact hu k
  · exact hc (Int.ofNat_dvd_left.mpr k)
/-- numbers below the period, no prime in all of them: a stripe with any r -/
theorem SOk.mk' {pw : List (Nat × Nat)} (hP : PerD pw) {cs : List Int} {r : Int} (l1 : 1 ≤ cs.length) (l3 : cs.length ≤ 3) (c0 : ∀ c ∈ cs, 0 ≤ c ∧ c < (mOf pw : Nat))
    (ok : ∀ x ∈ pw, ∃ c ∈ cs, ¬ (x.1 : Int) ∣ c) (r0 : 0 ≤ r ∧ r < (mOf pw : Nat)) : SOk pw cs r := ⟨hP.per, l1, l3, c0, r0, gcdL_one hP.ok ok⟩
theorem SOk.other {pw : List (Nat × Nat)} (hP : PerD pw) {cs : List Int} {r : Int} (h : SOk pw cs r) {u : Nat} (hu : ∀ x ∈ pw, ¬ x.1 ∣ u) :
    SOk pw (cs.map fun c => ((u : Int) * c) % ((mOf pw : Nat) : Int)) (((u : Int) * r) % ((mOf pw : Nat) : Int)) := by
  have hm := mOf_pos hP.ok
  have m0 : (0 : Int) < ((mOf pw : Nat) : Int) := by omega
  refine SOk.mk' hP (by simpa using h.l1) (by simpa using h.l3) ?_ ?_ (emodB _ m0)
  · intro c hc
    obtain ⟨c0, _, rfl⟩ := List.mem_map.mp hc
    exact emodB _ m0
  · intro x hx
    obtain ⟨c, hc, nd⟩ := h.free hx
    have hp := hP.ok.mem hx
    refine ⟨_, List.mem_map_of_mem hc, fun z => natAbs_unit hp (hu x hx) nd ?_⟩
    have pm : (x.1 : Int) ∣ ((mOf pw : Nat) : Int) := Int.natCast_dvd_natCast.mpr ((dvd_mOf hp hP.ok).mpr (List.mem_map_of_mem hx))
    have e := Int.emod_add_mul_ediv ((u : Int) * c) ((mOf pw : Nat) : Int)
    rw [← e]
    exact Int.dvd_add z (Int.dvd_trans pm (Int.dvd_mul_right _ _))
theorem on_other {m : Int} {u : Int} {cs xs : List Int} {r : Int} (h : (dotI cs xs - r) % m = 0) : (dotI (cs.map fun c => (u * c) % m) xs - (u * r) % m) % m = 0 := by
  rw [Int.sub_emod, dot_unit, Int.emod_emod, ← Int.sub_emod, ← Int.mul_sub]
  have d := Int.dvd_of_emod_eq_zero h
  exact Int.emod_eq_zero_of_dvd (Int.dvd_trans d (Int.dvd_mul_left _ _))
theorem on_self {m z : Int} : (z - z % m) % m = 0 := by
  rw [Int.sub_emod, Int.emod_emod, Int.sub_self]
  rfl
theorem shift_due {m z k : Int} : (z - (z % m + k) % m) % m = 0 ↔ k % m = 0 := by
  have e : (z - (z % m + k) % m) % m = (-k) % m := by
    rw [Int.sub_emod, Int.emod_emod, ← Int.sub_emod]
    have : z - (z % m + k) = (z - z % m) + -k := by omega
    rw [this, Int.add_emod, on_self, Int.zero_add, Int.emod_emod]
  rw [e]
  constructor
  · intro h
    have := Int.dvd_of_emod_eq_zero h
    exact Int.emod_eq_zero_of_dvd (Int.dvd_neg.mp this)
  · intro h
    exact Int.emod_eq_zero_of_dvd (Int.dvd_neg.mpr (Int.dvd_of_emod_eq_zero h))
theorem prodI_mOf : ∀ pw : List (Nat × Nat), prodI (pw.map qOf) = mOf pw
  | [] => rfl
  | x :: r => by
    rw [List.map_cons, prodI_cons, prodI_mOf r]
    rfl
end KL
namespace KL
open PySem PySem.Spec PyProof.Rows L2 RZ StX SrtO Kw KM
theorem lc_done {H1 H : Hp} {D : Addr} {xs : Nat → List V} {i : Nat} {ys : List V} (h : Lc H1 D xs i H) (e : xs i = ys) : Same H1 H ∧ H D = some (.lst ys) := ⟨h.1, e ▸ h.2⟩
theorem ix_tupK {X : Cx} {K : PySem.W.Frag} (hK : X.K = K := by rfl) : IxR X (rIxT K) := hK ▸ ix_tup
end KL
namespace KL
open PySem PySem.Spec PyProof.Rows L2 RZ StX SrtO Kw KM
/-! ### the stripe written otherwise -/
/-- across a stripe -/
def crossT (cs : List Int) (at_ near : Nat) : List Int := (List.range cs.length).map fun i => if i = at_ then cs.getD near 0 else if i = near then -(cs.getD at_ 0) else 0
theorem cross_zero {cs : List Int} (h3 : cs.length ≤ 3) {a n : Nat} (ha : a < cs.length) (hn : n < cs.length) (ne : n ≠ a) : dotI cs (crossT cs a n) = 0 := by
  match cs, h3 with
  | [], _ => simp at ha
  | [c0], _ =>
    simp at ha hn
    omega
  | [c0, c1], _ =>
    simp at ha hn
    have e1 : c1 * c0 = c0 * c1 := Int.mul_comm _ _
    rcases (show (a = 0 ∧ n = 1) ∨ (a = 1 ∧ n = 0) by omega) with ⟨rfl, rfl⟩ | ⟨rfl, rfl⟩ <;> simp [crossT, dotI, List.range, List.range.loop, Int.mul_neg] <;> omega
  | [c0, c1, c2], _ =>
    simp at ha hn
    have e1 : c1 * c0 = c0 * c1 := Int.mul_comm _ _
    have e2 : c2 * c0 = c0 * c2 := Int.mul_comm _ _
    have e3 : c2 * c1 = c1 * c2 := Int.mul_comm _ _
    rcases (show (a = 0 ∧ n = 1) ∨ (a = 0 ∧ n = 2) ∨ (a = 1 ∧ n = 0) ∨ (a = 1 ∧ n = 2) ∨ (a = 2 ∧ n = 0) ∨ (a = 2 ∧ n = 1) by omega) with ⟨rfl, rfl⟩ | ⟨rfl, rfl⟩ | ⟨rfl, rfl⟩ | ⟨rfl, rfl⟩ | ⟨rfl, rfl⟩ | ⟨rfl, rfl⟩ <;>
      simp [crossT, dotI, List.range, List.range.loop, Int.mul_neg] <;> omega
/-- what stands when all is drawn -/
structure Sc (K : PySem.W.Frag) (H : Hp) (d l pa c x s o : Addr) (pw : List (Nat × Nat)) (cs xs : List Int) (r : Int) (cs2 : List Int) (r2 : Int) : Prop where
  deck : DeckAt H d l
  pws : PwAt K H pa pw
  cc : SqT K H c (cs.map V.int)
  xx : SqT K H x (xs.map V.int)
  ss : SAt K H s (mOf pw) cs r
  oo : SAt K H o (mOf pw) cs2 r2
theorem Sc.stp {K : PySem.W.Frag} {H H' : Hp} {d l pa c x s o : Addr} {pw : List (Nat × Nat)} {cs xs : List Int} {r : Int} {cs2 : List Int} {r2 : Int} (h : Sc K H d l pa c x s o pw cs xs r cs2 r2) (n : pa ≠ l) (st : Stp d l H H') :
    Sc K H' d l pa c x s o pw cs xs r cs2 r2 := ⟨st.post, h.pws.stp st n, st.sqt h.cc, st.sqt h.xx, h.ss.stp st, h.oo.stp st⟩
theorem Sc.same {K : PySem.W.Frag} {H H' : Hp} {d l pa c x s o : Addr} {pw : List (Nat × Nat)} {cs xs : List Int} {r : Int} {cs2 : List Int} {r2 : Int} (h : Sc K H d l pa c x s o pw cs xs r cs2 r2) (n : pa ≠ l) (st : Same H H') :
    Sc K H' d l pa c x s o pw cs xs r cs2 r2 := h.stp n (h.deck.stp st)
end KL
namespace KL
open PySem PySem.Spec PyProof.Rows L2 RZ StX SrtO Kw KM
theorem on_same {m : Int} {cs xs ts : List Int} {r v : Int} (hl : xs.length = ts.length) (z : dotI cs ts = 0) (on : (dotI cs xs - r) % m = 0) : (dotI cs (movI xs ts v) - r) % m = 0 := by
  rw [dot_mov _ _ _ _ hl, z, Int.mul_zero, Int.add_zero]
  exact on
section
variable {P : Program} {w : World} {K : PySem.W.Frag} {mg : Str → Option Value} {base : Heap}
def sp_law (K : PySem.W.Frag) : Sp := fun vs H Q _ => ∃ (a : Addr) (ns : List Int), vs = [.ref a] ∧ SqL K H a (ns.map V.int) ∧ ns.length ≤ 63 ∧ ∀ H', Q (.bl true) H'
theorem ok_law (T : Txt K mg) : GFn P w K mg base 8 T.a_law T.d_law ["_law_script"] (sp_law K) := by
  refine gfn_of T.F_law sc_law (fun vs H Q E h => ?_) (fun cdv A outer s H vs Q E hq hr h => ?_)
  · obtain ⟨a, ns, rfl, _⟩ := h
    rfl
  obtain ⟨a, ns, rfl, hs, h63, q⟩ := h
  refine ⟨_, pss_cons (ps_set (i := 1) sc_law.nd rfl (Or.inr rfl) (cl__law_deck T (hr.mono (by decide)) (pa_cons (pv 0) pa_nil)))
    (pss_cons (ps_par (i := 2) (j := 3) (by rfl) sc_law.nd rfl rfl (by decide) rfl rfl (pa_cons (cl__law_powers T (hr.mono (by decide)) (pa_cons (pv 1) (pa_cons (pe_op op_pow pe_int pe_int) (pa_cons pe_int pa_nil)))) (pa_cons (pe_op op_add pe_int (cl__law_draw T (hr.mono (by decide)) (pa_cons (pv 1) (pa_cons pe_int pa_nil)))) pa_nil)) (by rfl))
    (pss_cons (ps_set (i := 4) sc_law.nd rfl (Or.inr rfl) (cl__law_product T (hr.mono (by decide)) (pa_cons (pe_lc (own := [("_law_p", 18), ("_law_q", 19)]) (g := gTup K 2 (gCons (gName 18) (gCons (gName 19) gNil))) rfl sc_law.nd (pi_list (pv 2)) (blkOk_by (N := N_law) (sc := defScope s_law) (by decide +kernel)) (fun _ _ _ _ _ => (pg_tup (by rfl) (pgs_cons (pg_name (i := 18) sc_law.nd rfl (Or.inl rfl)) (pgs_cons (pg_name (i := 19) sc_law.nd rfl (Or.inl rfl)) pgs_nil)))) (fun _ _ _ _ _ => pts_nil) (fun _ _ _ _ _ => (pv 19))) pa_nil)))
    (pss_cons (ps_asg (pe_tup (pa_cons (cl__law_numbers T (hr.mono (by decide)) (pa_cons (pv 1) (pa_cons (pv 2) (pa_cons (pv 4) (pa_cons (pv 3) pa_nil))))) (pa_cons (pe_callTy call_tuple_of (by rfl) T.n_tuple (by decide +kernel) (pa_cons (pe_lc (own := [("_law_at", 14)]) rfl sc_law.nd (pi_range1 (by rfl) T.n_range (pa_cons (pv 3) pa_nil)) (blkOk_by (N := N_law) (sc := defScope s_law) (by decide +kernel)) (fun _ _ _ _ _ => (pg_name (i := 14) sc_law.nd rfl (Or.inl rfl))) (fun _ _ _ _ _ => pts_nil) (fun _ _ _ _ _ => (cl__law_signed T (hr.mono (by decide)) (pa_cons (pv 1) (pa_cons (pe_op op_pow pe_int pe_int) pa_nil))))) pa_nil)) pa_nil))) (pg_tup (by rfl) (pgs_cons (pg_name (i := 5) sc_law.nd rfl (Or.inr rfl)) (pgs_cons (pg_name (i := 6) sc_law.nd rfl (Or.inl rfl)) pgs_nil))))
    (pss_cons (ps_set (i := 7) sc_law.nd rfl (Or.inl rfl) (pe_op op_mod (pe_callTy call_int1 (by rfl) T.n_int (by decide +kernel) (pa_cons (cl__law_along T (hr.mono (by decide)) (pa_cons (pv 5) (pa_cons (pv 6) pa_nil))) pa_nil)) (pv 4)))
    (pss_cons (ps_asg (pe_tup (pa_cons (pe_tup (pa_cons (pv 4) (pa_cons (pv 5) (pa_cons (pv 7) pa_nil)))) (pa_cons (cl__law_unit T (hr.mono (by decide)) (pa_cons (pv 1) (pa_cons (pv 2) (pa_cons (pv 4) pa_nil)))) pa_nil))) (pg_tup (by rfl) (pgs_cons (pg_name (i := 8) sc_law.nd rfl (Or.inl rfl)) (pgs_cons (pg_name (i := 9) sc_law.nd rfl (Or.inr rfl)) pgs_nil))))
    (Evl.pss_cut (ps_set (i := 10) sc_law.nd rfl (Or.inl rfl) (pe_tup (pa_cons (pv 4) (pa_cons (pe_callTy call_tuple_of (by rfl) T.n_tuple (by decide +kernel) (pa_cons (pe_lc (own := [("_law_a", 20)]) rfl sc_law.nd (pi_tup (pv 5)) (blkOk_by (N := N_law) (sc := defScope s_law) (by decide +kernel)) (fun _ _ _ _ _ => (pg_name (i := 20) sc_law.nd rfl (Or.inl rfl))) (fun _ _ _ _ _ => pts_nil) (fun _ _ _ _ _ => (pe_op op_mod (pe_callTy call_int1 (by rfl) T.n_int (by decide +kernel) (pa_cons (pe_op op_mulW (pv 9) (pv 20)) pa_nil)) (pv 4)))) pa_nil)) (pa_cons (pe_op op_mod (pe_callTy call_int1 (by rfl) T.n_int (by decide +kernel) (pa_cons (pe_op op_mulW (pv 9) (pv 7)) pa_nil)) (pv 4)) pa_nil)))))
    (Evl.pss_cut (ps_for PassesOwn.never rfl (pi_list (pe_op op_cat (pe_op op_cat (pe_lst (pa_cons pe_int (pa_cons pe_int (pa_cons (pe_un un_neg pe_int) (pa_cons (cl__law_great T (hr.mono (by decide)) (pa_cons (pv 1) (pa_cons (pv 4) pa_nil))) (pa_cons (pe_op op_fdivW (pv 4) pe_int) pa_nil)))))) (pe_lc (own := [("_law_p", 18), ("_law_q", 19)]) (g := gTup K 2 (gCons (gName 18) (gCons (gName 19) gNil))) rfl sc_law.nd (pi_list (pv 2)) (blkOk_by (N := N_law) (sc := defScope s_law) (by decide +kernel)) (fun _ _ _ _ _ => (pg_tup (by rfl) (pgs_cons (pg_name (i := 18) sc_law.nd rfl (Or.inl rfl)) (pgs_cons (pg_name (i := 19) sc_law.nd rfl (Or.inl rfl)) pgs_nil)))) (fun _ _ _ _ _ => pts_nil) (fun _ _ _ _ _ => (pe_op op_fdivW (pv 4) (pv 18))))) (pe_lc (own := [("_law_p", 18), ("_law_q", 19)]) (g := gTup K 2 (gCons (gName 18) (gCons (gName 19) gNil))) rfl sc_law.nd (pi_list (pv 2)) (blkOk_by (N := N_law) (sc := defScope s_law) (by decide +kernel)) (fun _ _ _ _ _ => (pg_tup (by rfl) (pgs_cons (pg_name (i := 18) sc_law.nd rfl (Or.inl rfl)) (pgs_cons (pg_name (i := 19) sc_law.nd rfl (Or.inl rfl)) pgs_nil)))) (fun _ _ _ _ _ => pts_nil) (fun _ _ _ _ _ => (pv 19))))) (pg_name (i := 11) sc_law.nd rfl (Or.inl rfl)) (pss_one (ps_if (pt_not (pt_val (cl__law_is_due T hq (hr.mono (by decide)) (pa_cons (pe_tup (pa_cons (pv 4) (pa_cons (pv 5) (pa_cons (pe_op op_mod (pe_callTy call_int1 (by rfl) T.n_int (by decide +kernel) (pa_cons (pe_op op_add (pv 7) (pv 11)) pa_nil)) (pv 4)) pa_nil)))) (pa_cons (pv 6) (pa_cons (pe_cmpR op_eq (pe_op op_mod (pe_callTy call_int1 (by rfl) T.n_int (by decide +kernel) (pa_cons (pv 11) pa_nil)) (pv 4)) pe_int (nomark _)) pa_nil)))))) (pss_one (ps_ret pe_bl)) pss_nil)))
    (Evl.pss_cut (ps_for PassesOwn.never rfl (pi_range1 (by rfl) T.n_range (pa_cons pe_int pa_nil)) (pg_name (i := 12) sc_law.nd rfl (Or.inl rfl)) (pss_cons (ps_set (i := 13) sc_law.nd rfl (Or.inl rfl) (cl__law_step T (hr.mono (by decide)) (pa_cons (pv 1) (pa_cons (pv 2) (pa_cons (pv 3) pa_nil)))))
        (pss_cons (ps_if (PW.pt (pw_or (pt_not (pt_val (cl__law_comes_again T hq (hr.mono (by decide)) (pa_cons (pv 1) (pa_cons (pv 8) (pa_cons (pv 6) (pa_cons (pv 13) pa_nil))))))) (pw_or1 (pt_not (pt_val (cl__law_comes_again T hq (hr.mono (by decide)) (pa_cons (pv 1) (pa_cons (pv 10) (pa_cons (pv 6) (pa_cons (pv 13) pa_nil)))))))))) (pss_one (ps_ret pe_bl)) pss_nil)
        (pss_one (ps_if (PW.pt (pw_or (pt_not (pt_val (cl__law_is_of_parts T hq (hr.mono (by decide)) (pa_cons (pv 1) (pa_cons (pv 2) (pa_cons (pv 8) (pa_cons (pv 6) pa_nil))))))) (pw_or1 (pt_not (pt_val (cl__law_is_of_parts T hq (hr.mono (by decide)) (pa_cons (pv 1) (pa_cons (pv 2) (pa_cons (pv 10) (pa_cons (pv 6) pa_nil)))))))))) (pss_one (ps_ret pe_bl)) pss_nil)))))
    (Evl.pss_cut (ps_for PassesOwn.never rfl (pi_range1 (by rfl) T.n_range (pa_cons (pv 3) pa_nil)) (pg_name (i := 14) sc_law.nd rfl (Or.inr rfl)) (pss_cons (ps_asg (pe_tup (pa_cons (pe_op op_mod (pe_op op_add (pe_op op_add (pv 14) pe_int) (cl__law_draw T (hr.mono (by decide)) (pa_cons (pv 1) (pa_cons pe_int pa_nil)))) (pv 3)) (pa_cons (cl__law_signed T (hr.mono (by decide)) (pa_cons (pv 1) (pa_cons (pe_op op_pow pe_int pe_int) pa_nil))) pa_nil))) (pg_tup (by rfl) (pgs_cons (pg_name (i := 15) sc_law.nd rfl (Or.inr rfl)) (pgs_cons (pg_name (i := 16) sc_law.nd rfl (Or.inl rfl)) pgs_nil))))
        (pss_one (ps_if (pt_cmpR op_ne (pv 15) (pv 14) (nomark _)) (pss_cons (ps_set (i := 13) sc_law.nd rfl (Or.inl rfl) (pe_callTy call_tuple_of (by rfl) T.n_tuple (by decide +kernel) (pa_cons (pe_lc (own := [("_law_place", 21)]) rfl sc_law.nd (pi_range1 (by rfl) T.n_range (pa_cons (pv 3) pa_nil)) (blkOk_by (N := N_law) (sc := defScope s_law) (by decide +kernel)) (fun _ _ _ _ _ => (pg_name (i := 21) sc_law.nd rfl (Or.inl rfl))) (fun _ _ _ _ _ => pts_nil) (fun _ _ _ _ _ => (pe_ifExp (pt_cmpR op_eq (pv 21) (pv 14) (nomark _)) (pe_ix (ix_tupK (K := K)) (pv 5) (pv 15) (fun _ _ => rfl)) (pe_ifExp (pt_cmpR op_eq (pv 21) (pv 15) (nomark _)) (pe_un un_neg (pe_ix (ix_tupK (K := K)) (pv 5) (pv 14) (fun _ _ => rfl))) pe_int)))) pa_nil)))
            (pss_cons (ps_set (i := 17) sc_law.nd rfl (Or.inl rfl) (cl__law_moved T (hr.mono (by decide)) (pa_cons (pv 6) (pa_cons (pv 13) (pa_cons (pv 16) pa_nil)))))
            (pss_one (ps_if (PW.pt (pw_or (pt_not (pt_val (cl__law_is_due T hq (hr.mono (by decide)) (pa_cons (pv 8) (pa_cons (pv 17) (pa_cons pe_bl pa_nil)))))) (pw_or1 (pt_not (pt_val (cl__law_is_due T hq (hr.mono (by decide)) (pa_cons (pv 10) (pa_cons (pv 17) (pa_cons pe_bl pa_nil))))))))) (pss_one (ps_ret pe_bl)) pss_nil)))) pss_nil))))
    (pss_one (ps_ret pe_bl))))))))))), ?_⟩
  have small : ∀ n : Nat, n < 100 → Bd 2000 (n : Int) := fun n h => bdN (n := n) (by omega) (by omega) (Nat.lt_of_lt_of_le h (by decide))
  refine ⟨_, rfl, a, ns, rfl, hs, h63, fun d l H1 s1 nd nl hD => ?_⟩
  -- powers, breadth
  refine ⟨_, rfl, _, _, rfl, rfl, ⟨by decide, by decide, by decide⟩, d, l, _, rfl, (by decide +kernel), hD, fun pa pw H2 st2 npl hP hA => ?_⟩
  refine ⟨_, rfl, d, l, 3, rfl, st2.post, by decide, small 3 (by decide), fun v H3 v0 v1 st3 => ?_⟩
  refine ⟨_, _, rfl, rfl, _, _, rfl, ?_⟩
  obtain ⟨dd, hdd⟩ : ∃ n : Nat, 1 + v = (n : Int) := ⟨(1 + v).toNat, by omega⟩
  have d1 : 1 ≤ dd := by omega
  have d3 : dd ≤ 3 := by omega
  dsimp only
  rw [hdd]
  clear hdd v0 v1 v
  have hA3 := hA.stp st3 npl
  clear hA hD st2 s1 hs
  have hD3 := st3.post
  clear st3
  have hm := mOf_pos hP.ok
  have hlt := hP.lt
  have m0 : (0 : Int) < ((mOf pw : Nat) : Int) := by omega
  have bm : Bd 133 ((mOf pw : Nat) : Int) := by
    unfold Bd
    have : (10 : Nat) ^ 40 < 2 ^ 133 := by decide
    omega
  -- the period
  obtain ⟨as, has, hl, hi⟩ := hA3.ex
  have plen := pw_len hP.ok
  refine ⟨_, rfl, pa, rfl, ⟨_, has⟩, fun D nD => lc_list (xs := as.map V.ref) (Lc H3 D fun i => (intsN ((pw.map qOf).take i)).map V.int) (lc_start nD rfl) (fun i H' _ h => h.1.seq has) (fun i v H' hx h => ?_) (fun H' h => ?_)⟩
  · obtain ⟨t, x, ht, hxp, rfl, hilt⟩ := pairs_at hl hx
    have hqq : (pw.map qOf)[i]? = some (qOf x) := by rw [List.getElem?_map, hxp]; rfl
    refine ⟨t, _, rfl, h.1.sqt (hi i t x ht hxp), rfl, _, _, rfl, _, _, rfl, rfl, rfl, yes_ (iteT ?_)⟩
    refine ⟨_, rfl, lc_leaf nD h.1 h.2 ?_ ?_⟩
    · simp only [List.length_map, List.length_take]
      omega
    · rw [List.take_add_one, hqq]
      simp [intsN]
  obtain ⟨s4, e4⟩ := lc_done h (ys := (intsN (pw.map qOf)).map V.int) (by
    show (intsN ((pw.map qOf).take (as.map V.ref).length)).map V.int = _
    rw [List.take_of_length_le (by simp [hl])])
  have pe := prodI_mOf pw
  refine ⟨D, pw.map qOf, rfl, SqL.of e4, ?_, by rw [pe]; exact Nat.lt_trans hlt (by decide), ?_⟩
  · intro n hn
    obtain ⟨x, hx, rfl⟩ := List.mem_map.mp hn
    exact (qOf_le hP.ok hx).1
  rw [pe]
  clear pe e4
  have hA4 := hA3.same s4
  have hD4 := hD3.same s4
  clear h hA3 hD3 s4 has hi hl as nD D
  clear H1 H2 H3
  -- numbers
  refine ⟨_, rfl, _, rfl, _, rfl, _, rfl, d, l, pa, pw, dd, rfl, hD4, hP, hA4, npl, d1, d3, fun pc csN H5 st5 hc clen clt cok => ?_⟩
  have hA5 := hA4.stp st5 npl
  have hD5 := st5.post
  -- the cell
  refine ⟨_, rfl, dd, rfl, by omega, by omega, fun D2 nD2 => lc_range (lo := 0) (n := ((dd : Nat) : Int).toNat) (fun i H2 => Stp d l H5 H2 ∧ ∃ ts : List Int, ts.length = i ∧ (∀ t ∈ ts, Bd 200 t) ∧ H2 D2 = some (.lst (ts.map V.int))) ⟨hD5.refl.upd nD2, [], rfl, (fun _ h => absurd h List.not_mem_nil), upd_same⟩ (fun i H2 hi2 h => ?_) (fun H2 h => ?_)⟩
  · obtain ⟨st2, ts, tl, tb, te⟩ := h
    refine ⟨rfl, yes_ (iteT ?_)⟩
    refine ⟨_, rfl, _, _, rfl, rfl, ⟨by decide, by decide, by decide⟩, d, l, _, rfl, st2.post, by decide +kernel, Bd.mono (a := 170) (by unfold Bd; decide +kernel) (by decide), fun v H3 v0 v1 st3 => ?_⟩
    have bv : Bd 200 v := by
      have e : (10 : Int) ^ (50 : Int).toNat = 100000000000000000000000000000000000000000000000000 := by decide +kernel
      rw [e] at v0 v1
      have e2 : (2 : Nat) ^ 200 > 100000000000000000000000000000000000000000000000000 := by decide +kernel
      unfold Bd
      omega
    refine ⟨_, st3.lst (hD5.off nD2) te, ?_, (st2.trans st3).upd nD2, ts ++ [v], ?_, ?_, ?_⟩
    · rw [List.length_map, tl]
      exact Nat.lt_of_lt_of_le (show i < 4 by omega) (by decide)
    · rw [List.length_append, tl]
      rfl
    · intro t ht
      rcases List.mem_append.mp ht with k | k
      · exact tb t k
      · rw [List.mem_singleton.mp k]
        exact bv
    · rw [upd_same, List.map_append]
      rfl
  obtain ⟨st6, xs, xl, xb, xe⟩ := h
  have xl : xs.length = dd := by rw [xl]; omega
  refine ⟨D2, _, rfl, .inl ⟨SqL.of xe, fun px npx => ?_⟩⟩
  have st7 := st6.same (same_new npx (.tup (xs.map V.int)))
  have hx7 : SqT K (upd H2 px (.tup (xs.map V.int))) px (xs.map V.int) := SqT.of upd_same
  generalize upd H2 px (.tup (xs.map V.int)) = H7 at st7 hx7
  refine ⟨(by show 2 ≤ sizeLine; decide), fun tt ntt => ?_⟩
  have st8 := st7.same (same_new ntt (.tup [.ref pc, .ref px]))
  have hx8 := (same_new ntt (.tup [.ref pc, .ref px])).sqt hx7
  have ht8 : SqT K (upd H7 tt (.tup [.ref pc, .ref px])) tt [.ref pc, .ref px] := SqT.of upd_same
  generalize upd H7 tt (.tup [.ref pc, .ref px]) = H8 at st8 hx8 ht8
  refine ⟨tt, _, rfl, ht8, rfl, _, _, rfl, _, _, rfl, rfl, ?_⟩
  have hA8 := hA5.stp st8 npl
  have hD8 := st8.post
  have hc8 := st8.sqt hc
  clear hA5 hD5 st8 hc ht8 ntt st7 hx7 npx xe st6 nD2 hA4 hD4 st5
  generalize hcs : intsN csN = cs at hc8
  have cl : cs.length = dd := by rw [← hcs]; simp [clen]
  have c0 : ∀ c ∈ cs, 0 ≤ c ∧ c < (mOf pw : Nat) := by
    intro c hcc
    rw [← hcs] at hcc
    obtain ⟨n, hn, rfl⟩ := List.mem_map.mp hcc
    have := clt n hn
    exact ⟨by omega, by omega⟩
  have cfree : ∀ x ∈ pw, ∃ c ∈ cs, ¬ (x.1 : Int) ∣ c := by
    intro x hx
    obtain ⟨n, hn, nd⟩ := cok x hx
    refine ⟨(n : Int), by rw [← hcs]; exact List.mem_map_of_mem hn, fun z => nd (Int.natCast_dvd_natCast.mp z)⟩
  clear hcs clen clt cok csN
  have cb : ∀ c ∈ cs, Bd 200 c := by
    intro c hcc
    have := c0 c hcc
    refine Bd.mono (a := 133) ?_ (by decide)
    unfold Bd at *
    omega
  have cb2 : ∀ c ∈ cs, Bd 2000 c := fun c h => (cb c h).mono (by decide)
  have xb2 : ∀ x ∈ xs, Bd 2000 x := fun c h => (xb c h).mono (by decide)
  have xb1 : ∀ x ∈ xs, Bd 1000 x := fun c h => (xb c h).mono (by decide)
  -- r
  refine ⟨_, rfl, _, rfl, pc, px, cs, xs, rfl, hc8, hx8, by omega, by omega, cb2, xb2, fun H9 s9 => .inl ⟨_, rfl, _, rfl, _, _, rfl, rfl, m0, ?_⟩⟩
  dsimp only
  generalize hz : dotI cs xs = z
  have hO : SOk pw cs (z % ((mOf pw : Nat) : Int)) := SOk.mk' hP (by omega) (by omega) c0 cfree (emodB _ m0)
  have on : (dotI cs xs - z % ((mOf pw : Nat) : Int)) % ((mOf pw : Nat) : Int) = 0 := by rw [hz]; exact on_self
  have r0 := emodB z m0
  -- the stripe, the unit
  refine ⟨_, rfl, _, rfl, _, rfl, (by show 3 ≤ sizeLine; decide), fun ps nps => ?_⟩
  have s10 := s9.trans (same_new nps (.tup [.int ((mOf pw : Nat) : Int), .ref pc, .int (z % ((mOf pw : Nat) : Int))]))
  have hs10 : SqT K (upd H9 ps (.tup [.int ((mOf pw : Nat) : Int), .ref pc, .int (z % ((mOf pw : Nat) : Int))])) ps [.int ((mOf pw : Nat) : Int), .ref pc, .int (z % ((mOf pw : Nat) : Int))] := SqT.of upd_same
  generalize upd H9 ps (.tup [.int ((mOf pw : Nat) : Int), .ref pc, .int (z % ((mOf pw : Nat) : Int))]) = H10 at s10 hs10
  refine ⟨_, rfl, _, rfl, _, rfl, d, l, pa, pw, rfl, hD8.same s10, hP, hA8.same s10, npl, fun u H11 hu bu st11 => ?_⟩
  refine ⟨(by show 2 ≤ sizeLine; decide), fun t2 nt2 => ?_⟩
  have st12 := st11.same (same_new nt2 (.tup [.ref ps, .int (u : Int)]))
  have ht12 : SqT K (upd H11 t2 (.tup [.ref ps, .int (u : Int)])) t2 [.ref ps, .int (u : Int)] := SqT.of upd_same
  generalize upd H11 t2 (.tup [.ref ps, .int (u : Int)]) = H12 at st12 ht12
  refine ⟨t2, _, rfl, ht12, rfl, _, _, rfl, _, _, rfl, rfl, ?_⟩
  have hA12 := (hA8.same s10).stp st12 npl
  have hD12 := st12.post
  have hc12 := st12.sqt (s10.sqt hc8)
  have hx12 := st12.sqt (s10.sqt hx8)
  have hs12 : SAt K H12 ps (mOf pw) cs (z % ((mOf pw : Nat) : Int)) := ⟨pc, st12.sqt hs10, hc12⟩
  clear hA8 hD8 hc8 hx8 s9 s10 hs10 st11 st12 ht12 nps nt2
  generalize hrr : z % ((mOf pw : Nat) : Int) = r at *
  -- the other one
  refine ⟨fun σ H' => ∃ (po : Addr), σ = [some (.ref a), some (.ref d), some (.ref pa), some (.int dd), some (.int ((mOf pw : Nat) : Int)), some (.ref pc), some (.ref px), some (.int r), some (.ref ps), some (.int (u : Int)), some (.ref po), none, none, none, none, none, none, none, none, none, none, none] ∧
    Sc K H' d l pa pc px ps po pw cs xs r (cs.map fun c => ((u : Int) * c) % ((mOf pw : Nat) : Int)) (((u : Int) * r) % ((mOf pw : Nat) : Int)), ?_, ?_⟩
  · refine ⟨_, rfl, _, rfl, pc, rfl, ⟨_, hc12⟩, fun D nD => lc_tup (xs := cs.map V.int) (Lc H12 D fun i => ((cs.map fun c => ((u : Int) * c) % ((mOf pw : Nat) : Int)).take i).map V.int) (lc_start nD rfl) (fun i H' _ h => h.1.sqt hc12) (fun i v H' hv h => ?_) (fun H' h => ?_)⟩
    · rw [List.getElem?_map] at hv
      obtain ⟨c, hcc, rfl⟩ := Option.map_eq_some_iff.mp hv
      refine ⟨rfl, yes_ (iteT ?_)⟩
      refine ⟨_, rfl, _, rfl, _, _, rfl, rfl, bu.mulOk (cb c (List.mem_of_getElem? hcc)), .inl ⟨_, rfl, _, rfl, _, _, rfl, rfl, m0, ?_⟩⟩
      refine lc_leaf nD h.1 h.2 (by simp only [List.length_map, List.length_take]; omega) ?_
      rw [List.take_add_one, List.getElem?_map, hcc, List.map_append]
      rfl
    · obtain ⟨s13, e13⟩ := lc_done h (ys := (cs.map fun c => ((u : Int) * c) % ((mOf pw : Nat) : Int)).map V.int) (by
        show ((cs.map fun c => ((u : Int) * c) % ((mOf pw : Nat) : Int)).take (cs.map V.int).length).map V.int = _
        rw [List.take_of_length_le (by simp)])
      refine ⟨D, _, rfl, .inl ⟨SqL.of e13, fun t3 nt3 => ?_⟩⟩
      have s14 := s13.trans (same_new nt3 (.tup ((cs.map fun c => ((u : Int) * c) % ((mOf pw : Nat) : Int)).map V.int)))
      refine ⟨_, rfl, _, rfl, _, _, rfl, rfl, bu.mulOk (b := 133) (by unfold Bd at *; omega), .inl ⟨_, rfl, _, rfl, _, _, rfl, rfl, m0, (by show 3 ≤ sizeLine; decide), fun po npo => ?_⟩⟩
      have s15 := s14.trans (same_new npo (.tup [.int ((mOf pw : Nat) : Int), .ref t3, .int (((u : Int) * r) % ((mOf pw : Nat) : Int))]))
      refine ⟨po, rfl, hD12.same s15, hA12.same s15, s15.sqt hc12, s15.sqt hx12, hs12.mono s15, t3, SqT.of upd_same, (same_new npo _).sqt (SqT.of upd_same)⟩
  rintro σ H13 ⟨po, rfl, S13⟩
  clear hA12 hD12 hc12 hx12 hs12
  have hO2 := hO.other hP hu
  have on2 : ∀ ys : List Int, (dotI cs ys - r) % ((mOf pw : Nat) : Int) = 0 → (dotI (cs.map fun c => ((u : Int) * c) % ((mOf pw : Nat) : Int)) ys - ((u : Int) * r) % ((mOf pw : Nat) : Int)) % ((mOf pw : Nat) : Int) = 0 := fun ys h => on_other h
  have cl2 : (cs.map fun c => ((u : Int) * c) % ((mOf pw : Nat) : Int)).length = dd := by rw [List.length_map]; exact cl
  generalize (cs.map fun c => ((u : Int) * c) % ((mOf pw : Nat) : Int)) = cs2 at *
  generalize hr2 : ((u : Int) * r) % ((mOf pw : Nat) : Int) = r2 at *
  -- other r
  refine ⟨fun σ H' => ∃ x11 : Option V, σ = [some (.ref a), some (.ref d), some (.ref pa), some (.int dd), some (.int ((mOf pw : Nat) : Int)), some (.ref pc), some (.ref px), some (.int r), some (.ref ps), some (.int (u : Int)), some (.ref po), x11, none, none, none, none, none, none, none, none, none, none] ∧
    Sc K H' d l pa pc px ps po pw cs xs r cs2 r2, ?_, ?_⟩
  · refine ⟨_, rfl, _, rfl, _, rfl, d, l, _, rfl, S13.deck, by omega, bm.mono (by decide), fun g H14 g0 g1 st14 => ?_⟩
    have S14 := S13.stp npl st14
    refine ⟨_, rfl, _, _, rfl, rfl, Bd.divOk (b := 5) (by decide) (by unfold Bd; decide) (by decide) _, (by show 5 ≤ sizeLine; decide), fun L1 nL1 => ?_⟩
    have s15 := same_new nL1 (.lst [.int 0, .int 1, .int (-1), .int g, .int (((mOf pw : Nat) : Int) / 2)])
    have e15 : (upd H14 L1 (.lst [.int 0, .int 1, .int (-1), .int g, .int (((mOf pw : Nat) : Int) / 2)])) L1 = some (.lst ([(0 : Int), 1, -1, g, ((mOf pw : Nat) : Int) / 2].map V.int)) := upd_same
    generalize upd H14 L1 (.lst [.int 0, .int 1, .int (-1), .int g, .int (((mOf pw : Nat) : Int) / 2)]) = H15 at s15 e15
    generalize hks1 : [(0 : Int), 1, -1, g, ((mOf pw : Nat) : Int) / 2] = ks1 at e15
    have kl1 : ks1.length = 5 := by rw [← hks1]; rfl
    clear hks1
    have S15 := S14.same npl s15
    obtain ⟨as, has, hl, hi⟩ := S15.pws.ex
    have alen : as.length ≤ 10 := by omega
    refine ⟨_, rfl, pa, rfl, ⟨_, has⟩, fun D nD => lc_list (xs := as.map V.ref) (fun i H' => Same H15 H' ∧ ∃ ks : List Int, ks.length = i ∧ H' D = some (.lst (ks.map V.int))) ⟨same_new nD _, [], rfl, upd_same⟩ (fun i H' _ h => h.1.seq has) (fun i v H' hx h => ?_) (fun H' h => ?_)⟩
    · obtain ⟨s16, ks, kl, e16⟩ := h
      obtain ⟨t, x, ht, hxp, rfl, hilt⟩ := pairs_at hl hx
      have x2 := PN_lt _ (hP.ok.mem (List.mem_of_getElem? hxp))
      refine ⟨t, _, rfl, s16.sqt (hi i t x ht hxp), rfl, _, _, rfl, _, _, rfl, rfl, rfl, yes_ (iteT ?_)⟩
      refine ⟨_, rfl, _, rfl, _, _, rfl, rfl, Bd.divOk (b := 5) (by omega) (by unfold Bd; omega) (by decide) _, _, e16, ?_, same_upd2 s16 nD, ks ++ [((mOf pw : Nat) : Int) / (x.1 : Int)], by simp [kl], ?_⟩
      · rw [List.length_map, kl]
        exact Nat.lt_of_lt_of_le (show i < 10 by omega) (by decide)
      · rw [upd_same, List.map_append]
        rfl
    obtain ⟨s16, ks2, kl2, e16⟩ := h
    have kl2 : ks2.length ≤ 10 := by rw [kl2, List.length_map]; exact alen
    refine ⟨_, _, _, _, rfl, rfl, s16 _ _ e15, e16, ?_, fun L2_ nL2 => ?_⟩
    · simp only [List.length_map]
      exact Nat.le_trans (show ks1.length + ks2.length ≤ 15 by omega) (by decide)
    have s17 := s16.trans (same_new nL2 (.lst (ks1.map V.int ++ ks2.map V.int)))
    have e17 : (upd H' L2_ (.lst (ks1.map V.int ++ ks2.map V.int))) L2_ = some (.lst ((ks1 ++ ks2).map V.int)) := by rw [upd_same, List.map_append]
    generalize upd H' L2_ (.lst (ks1.map V.int ++ ks2.map V.int)) = H17 at s17 e17
    generalize hks3 : ks1 ++ ks2 = ks3 at e17
    have kl3 : ks3.length ≤ 15 := by rw [← hks3, List.length_append]; omega
    clear hks3 e16 s16 e15
    have has17 := s17.seq has
    have S17 := S15.same npl s17
    refine ⟨_, rfl, pa, rfl, ⟨_, has17⟩, fun D3 nD3 => lc_list (xs := as.map V.ref) (fun i H' => Same H17 H' ∧ ∃ ks : List Int, ks.length = i ∧ H' D3 = some (.lst (ks.map V.int))) ⟨same_new nD3 _, [], rfl, upd_same⟩ (fun i H' _ h => h.1.seq has17) (fun i v H' hx h => ?_) (fun H' h => ?_)⟩
    · obtain ⟨s18, ks, kl, e18⟩ := h
      obtain ⟨t, x, ht, hxp, rfl, hilt⟩ := pairs_at hl hx
      refine ⟨t, _, rfl, (s17.trans s18).sqt (hi i t x ht hxp), rfl, _, _, rfl, _, _, rfl, rfl, rfl, yes_ (iteT ?_)⟩
      refine ⟨_, rfl, _, e18, ?_, same_upd2 s18 nD3, ks ++ [((qOf x : Nat) : Int)], by simp [kl], ?_⟩
      · rw [List.length_map, kl]
        exact Nat.lt_of_lt_of_le (show i < 10 by omega) (by decide)
      · rw [upd_same, List.map_append]
        rfl
    obtain ⟨s18, ks4, kl4, e18⟩ := h
    have kl4 : ks4.length ≤ 10 := by rw [kl4, List.length_map]; exact alen
    refine ⟨_, _, _, _, rfl, rfl, s18 _ _ e17, e18, ?_, fun L3 nL3 => ?_⟩
    · simp only [List.length_map]
      exact Nat.le_trans (show ks3.length + ks4.length ≤ 25 by omega) (by decide)
    have s19 := s18.trans (same_new nL3 (.lst (ks3.map V.int ++ ks4.map V.int)))
    have e19 : SqL K (upd H' L3 (.lst (ks3.map V.int ++ ks4.map V.int))) L3 ((ks3 ++ ks4).map V.int) := SqL.of (by rw [upd_same, List.map_append])
    generalize upd H' L3 (.lst (ks3.map V.int ++ ks4.map V.int)) = H19 at s19 e19
    generalize ks3 ++ ks4 = ks at e19
    have S19 := S17.same npl s19
    refine ⟨L3, rfl, ⟨_, e19⟩, for_list (xs := ks.map V.int) (fun i σ H' => ∃ x11 : Option V, σ = [some (.ref a), some (.ref d), some (.ref pa), some (.int dd), some (.int ((mOf pw : Nat) : Int)), some (.ref pc), some (.ref px), some (.int r), some (.ref ps), some (.int (u : Int)), some (.ref po), x11, none, none, none, none, none, none, none, none, none, none] ∧ Same H19 H') ⟨none, rfl, Same.refl _⟩ ?_ ?_ ?_⟩
    · rintro i σ H' _ ⟨x11, rfl, s20⟩
      exact s20.seq e19
    · rintro i v σ H' hv ⟨x11, rfl, s20⟩
      rw [List.getElem?_map] at hv
      obtain ⟨k, hk, rfl⟩ := Option.map_eq_some_iff.mp hv
      have S20 := S19.same npl s20
      refine ⟨_, rfl, _, rfl, _, rfl, _, rfl, _, _, rfl, rfl, .inl ⟨_, rfl, _, rfl, _, _, rfl, rfl, m0, (by show 3 ≤ sizeLine; decide), fun tu ntu => ?_⟩⟩
      have s21 := same_new ntu (.tup [.int ((mOf pw : Nat) : Int), .ref pc, .int ((r + k) % ((mOf pw : Nat) : Int))])
      have e21 : SqT K (upd H' tu (.tup [.int ((mOf pw : Nat) : Int), .ref pc, .int ((r + k) % ((mOf pw : Nat) : Int))])) tu [.int ((mOf pw : Nat) : Int), .ref pc, .int ((r + k) % ((mOf pw : Nat) : Int))] := SqT.of upd_same
      generalize upd H' tu (.tup [.int ((mOf pw : Nat) : Int), .ref pc, .int ((r + k) % ((mOf pw : Nat) : Int))]) = H21 at s21 e21
      have S21 := S20.same npl s21
      refine ⟨_, rfl, _, rfl, .inl ⟨_, rfl, _, rfl, _, _, rfl, rfl, m0, rfl, ?_⟩⟩
      refine ⟨tu, px, pw, cs, xs, (r + k) % ((mOf pw : Nat) : Int), _, rfl, ⟨pc, e21, S21.cc⟩, SOk.mk' hP (by omega) (by omega) c0 cfree (emodB _ m0), S21.xx, by omega, xb2, ?_, fun H22 s22 => ⟨true, rfl, iteF ?_⟩⟩
      · refine decide_eq_decide.mpr ?_
        rw [hz, ← hrr, shift_due]
        exact ⟨V.int.inj, fun h => congrArg V.int h⟩
      · exact ⟨_, rfl, (s20.trans s21).trans s22⟩
    · rintro σ H' ⟨x11, rfl, s20⟩
      exact ⟨x11, rfl, S19.same npl s20⟩
  rintro σ H23 ⟨x11, rfl, S23⟩
  -- steps
  refine ⟨fun σ H' => ∃ x12 x13 : Option V, σ = [some (.ref a), some (.ref d), some (.ref pa), some (.int dd), some (.int ((mOf pw : Nat) : Int)), some (.ref pc), some (.ref px), some (.int r), some (.ref ps), some (.int (u : Int)), some (.ref po), x11, x12, x13, none, none, none, none, none, none, none, none] ∧
    Sc K H' d l pa pc px ps po pw cs xs r cs2 r2, ?_, ?_⟩
  · refine ⟨3, rfl, by decide, by decide, for_range (lo := 0) (n := 3) (fun i σ H' => ∃ x12 x13 : Option V, σ = [some (.ref a), some (.ref d), some (.ref pa), some (.int dd), some (.int ((mOf pw : Nat) : Int)), some (.ref pc), some (.ref px), some (.int r), some (.ref ps), some (.int (u : Int)), some (.ref po), x11, x12, x13, none, none, none, none, none, none, none, none] ∧
      Sc K H' d l pa pc px ps po pw cs xs r cs2 r2) ⟨none, none, rfl, S23⟩ ?_ ?_⟩
    · rintro i σ H' _ ⟨x12, x13, rfl, S⟩
      refine ⟨_, rfl, _, rfl, _, rfl, d, l, pa, pw, dd, rfl, S.deck, hP, S.pws, npl, d3, fun pt ts H24 st24 ht tl tb => ?_⟩
      have S24 := S.stp npl st24
      refine ⟨_, rfl, _, rfl, _, rfl, _, rfl, d, l, ps, px, pt, pw, cs, xs, ts, r, rfl, S24.deck, hP, S24.ss, hO, S24.xx, ht, by omega, by omega, xb1, tb, on, fun H25 st25 => ⟨true, rfl, iteF ?_⟩⟩
      have S25 := S24.stp npl st25
      have ht25 := st25.sqt ht
      refine ⟨_, rfl, _, rfl, _, rfl, _, rfl, d, l, po, px, pt, pw, cs2, xs, ts, r2, rfl, S25.deck, hP, S25.oo, hO2, S25.xx, ht25, by omega, by omega, xb1, tb, on2 _ on, fun H26 st26 => ⟨true, rfl, iteF ?_⟩⟩
      have S26 := S25.stp npl st26
      refine ⟨_, rfl, _, rfl, _, rfl, _, rfl, d, l, pa, ps, px, pw, cs, xs, r, rfl, S26.deck, hP, S26.pws, npl, S26.ss, hO, S26.xx, by omega, xb1, fun H27 st27 => ⟨true, rfl, iteF ?_⟩⟩
      have S27 := S26.stp npl st27
      refine ⟨_, rfl, _, rfl, _, rfl, _, rfl, d, l, pa, po, px, pw, cs2, xs, r2, rfl, S27.deck, hP, S27.pws, npl, S27.oo, hO2, S27.xx, by omega, xb1, fun H28 st28 => ⟨true, rfl, iteF ?_⟩⟩
      exact ⟨_, _, rfl, S27.stp npl st28⟩
    · rintro σ H' ⟨x12, x13, rfl, S⟩
      exact ⟨x12, x13, rfl, S⟩
  rintro σ H29 ⟨x12, x13, rfl, S29⟩
  -- across
  refine ⟨fun _ _ => True, ?_, fun σ' H' _ => q H'⟩
  refine ⟨_, rfl, dd, rfl, by omega, by omega, for_range (lo := 0) (n := ((dd : Nat) : Int).toNat) (fun i σ H' => ∃ x13 x14 x15 x16 x17 : Option V, σ = [some (.ref a), some (.ref d), some (.ref pa), some (.int dd), some (.int ((mOf pw : Nat) : Int)), some (.ref pc), some (.ref px), some (.int r), some (.ref ps), some (.int (u : Int)), some (.ref po), x11, x12, x13, x14, x15, x16, x17, none, none, none, none] ∧
      Sc K H' d l pa pc px ps po pw cs xs r cs2 r2) ⟨x13, none, none, none, none, rfl, S29⟩ ?_ ?_⟩
  · rintro i σ H' hi ⟨y13, y14, y15, y16, y17, rfl, S⟩
    have hi : i < dd := by omega
    refine ⟨_, rfl, _, _, rfl, rfl, _, rfl, d, l, 2, rfl, S.deck, by decide, small 2 (by decide), fun v H30 v0 v1 st30 => ?_⟩
    refine ⟨_, _, rfl, rfl, _, rfl, _, _, rfl, rfl, (by omega), ?_⟩
    obtain ⟨j, hj, hjd⟩ : ∃ j : Nat, (0 + (i : Int) + 1 + v) % (dd : Int) = (j : Int) ∧ j < dd := by
      have := emodB (0 + (i : Int) + 1 + v) (b := (dd : Int)) (by omega)
      exact ⟨((0 + (i : Int) + 1 + v) % (dd : Int)).toNat, by omega, by omega⟩
    dsimp only
    rw [hj]
    have S30 := S.stp npl st30
    refine ⟨_, rfl, _, _, rfl, rfl, ⟨by decide, by decide, by decide⟩, d, l, _, rfl, S30.deck, by decide +kernel, Bd.mono (a := 60) (by unfold Bd; decide +kernel) (by decide), fun k H31 k0 k1 st31 => ?_⟩
    have bk : Bd 60 k := by
      have e : (10 : Int) ^ (15 : Int).toNat = 1000000000000000 := by decide +kernel
      rw [e] at k0 k1
      unfold Bd
      omega
    have S31 := S30.stp npl st31
    refine ⟨(by show 2 ≤ sizeLine; decide), fun tt ntt => ?_⟩
    have S32 := S31.same npl (same_new ntt (.tup [.int (j : Int), .int k]))
    have e32 : SqT K (upd H31 tt (.tup [.int (j : Int), .int k])) tt [.int (j : Int), .int k] := SqT.of upd_same
    generalize upd H31 tt (.tup [.int (j : Int), .int k]) = H32 at S32 e32
    refine ⟨tt, _, rfl, e32, rfl, _, _, rfl, _, _, rfl, rfl, ?_⟩
    refine ⟨_, rfl, _, rfl, rfl, _, rfl, ite2 (fun cc => ?_) (fun cc => ?_)⟩
    · have ne : j ≠ i := by
        rintro rfl
        simp at cc
      have clen : (crossT cs i j).length = cs.length := by unfold crossT; simp
      refine ⟨_, rfl, dd, rfl, by omega, by omega, fun D nD => lc_range (lo := 0) (n := ((dd : Nat) : Int).toNat) (Lc H32 D fun n => ((crossT cs i j).take n).map V.int) (lc_start nD rfl) (fun n H33 hn h => ?_) (fun H33 h => ?_)⟩
      · have hn : n < dd := by omega
        have hc32 := h.1.sqt S32.cc
        have cg : ∀ m : Nat, m < dd → (cs.map V.int)[m]? = some (.int (cs.getD m 0)) := by
          intro m hm
          rw [List.getElem?_map, List.getElem?_eq_getElem (by omega), List.getD_eq_getElem?_getD, List.getElem?_eq_getElem (by omega)]
          rfl
        have fin : ∀ y : Int, (if n = i then cs.getD j 0 else if n = j then -(cs.getD i 0) else 0) = y → ((crossT cs i j).take (n + 1)).map V.int = ((crossT cs i j).take n).map V.int ++ [.int y] := by
          intro y hy
          rw [List.take_add_one]
          have : (crossT cs i j)[n]? = some y := by
            unfold crossT
            rw [List.getElem?_map, List.getElem?_range (by omega), ← hy]
            rfl
          rw [this, List.map_append]
          rfl
        have room : (((crossT cs i j).take n).map V.int).length ≤ 100000 := by
          simp only [List.length_map, List.length_take]
          omega
        refine ⟨rfl, yes_ (iteT ?_)⟩
        refine ⟨_, rfl, _, rfl, rfl, _, rfl, ite2 (fun c1 => ?_) (fun c1 => ?_)⟩
        · have c1 : n = i := by simp at c1; omega
          refine ⟨_, rfl, _, rfl, pc, _, _, _, rfl, rfl, hc32, atI_nat (cg j hjd), lc_leaf nD h.1 h.2 room (fin _ (by rw [if_pos c1]))⟩
        · have c1 : n ≠ i := by
            rintro rfl
            simp at c1
          refine ⟨_, rfl, _, rfl, rfl, _, rfl, ite2 (fun c2 => ?_) (fun c2 => ?_)⟩
          · have c2 : n = j := by simp at c2; omega
            refine ⟨_, rfl, _, rfl, pc, _, _, _, rfl, rfl, hc32, ?_, _, rfl, lc_leaf nD h.1 h.2 room (fin _ (by rw [if_neg c1, if_pos c2]))⟩
            rw [Int.zero_add]
            exact atI_nat (cg i hi)
          · have c2 : n ≠ j := by
              rintro rfl
              simp at c2
            exact lc_leaf nD h.1 h.2 room (fin _ (by rw [if_neg c1, if_neg c2]))
      · obtain ⟨s34, e34⟩ := lc_done h (ys := (crossT cs i j).map V.int) (by
          show ((crossT cs i j).take ((dd : Nat) : Int).toNat).map V.int = _
          rw [List.take_of_length_le (by rw [clen]; omega)])
        refine ⟨D, _, rfl, .inl ⟨SqL.of e34, fun pt npt => ?_⟩⟩
        have s35 := s34.trans (same_new npt (.tup ((crossT cs i j).map V.int)))
        have e35 : SqT K (upd H33 pt (.tup ((crossT cs i j).map V.int))) pt ((crossT cs i j).map V.int) := SqT.of upd_same
        generalize upd H33 pt (.tup ((crossT cs i j).map V.int)) = H35 at s35 e35
        have S35 := S32.same npl s35
        have zero := cross_zero (cs := cs) (by omega) (a := i) (n := j) (by omega) (by omega) ne
        have tb : ∀ t ∈ crossT cs i j, Bd 200 t := by
          intro t ht
          have gb : ∀ m, Bd 200 (cs.getD m 0) := by
            intro m
            rw [List.getD_eq_getElem?_getD]
            cases e : cs[m]? with
            | none => exact Nat.pow_pos (by decide)
            | some y => exact cb y (List.mem_of_getElem? e)
          unfold crossT at ht
          obtain ⟨n, hn, rfl⟩ := List.mem_map.mp ht
          split
          · exact gb j
          · split
            · exact (gb i).neg
            · exact Nat.pow_pos (by decide)
        generalize crossT cs i j = ts at *
        refine ⟨_, rfl, _, rfl, _, rfl, px, pt, xs, ts, k, rfl, S35.xx, e35, by omega, by omega, fun t ht => (tb t ht).mono (by decide), bk.mono (by decide), fun py H36 s36 npy epy => ?_⟩
        have S36 := S35.same npl s36
        have on3 := on_same (v := k) (show xs.length = ts.length by omega) zero on
        have ml : (movI xs ts k).length = xs.length := mov_len (by omega)
        have mb := mov_bd (k := k) xb1 (fun t ht => (tb t ht).mono (by decide)) (bk.mono (by decide))
        generalize movI xs ts k = ys at *
        refine ⟨_, rfl, _, rfl, ps, py, pw, cs, ys, r, true, rfl, S36.ss, hO, epy, by omega, mb, (decide_eq_true on3).symm, fun H37 s37 => ⟨true, rfl, iteF ?_⟩⟩
        have S37 := S36.same npl s37
        refine ⟨_, rfl, _, rfl, po, py, pw, cs2, ys, r2, true, rfl, S37.oo, hO2, s37.sqt epy, by omega, mb, (decide_eq_true (on2 _ on3)).symm, fun H38 s38 => ⟨true, rfl, iteF ?_⟩⟩
        exact ⟨_, _, _, _, _, rfl, S37.same npl s38⟩
    · exact ⟨_, _, _, _, _, rfl, S32⟩
  · rintro σ H' _
    trivial
end
end KL
namespace KL
open PySem PySem.Spec PyProof.Rows L2 RZ StX SrtO Kw KM
theorem mkb_is_on_0_cell_stripe {K : PySem.W.Frag} {a : Addr} {fd : FuncData} (F : Fun K "is_on" "is_on" s_is_on a fd) : KBinds K fd ["stripe", "cell"] ["cell", "stripe"] gkb_is_on_0_cell_stripe gkb_is_on_0_cell_stripeV := by
  obtain ⟨oc, od, kV, doc, pm, an, cdv, ct, osl, rfl, lk, hcd⟩ := F.ex
  constructor
  · intro s us ws _ hl
    revert hl
    unfold gkb_is_on_0_cell_stripe
    split
    · intro _
      exact .of_eq rfl
    · intro hl
      cases hl
  · intro vs us zs ws h1 h2
    unfold gkb_is_on_0_cell_stripe gkb_is_on_0_cell_stripeV
    cases h1 with
    | nil =>
      cases h2 with
      | nil => exact .nil
      | cons k0 h2 =>
        cases h2 with
        | nil => exact .nil
        | cons k1 h2 =>
          cases h2 with
          | nil =>
            exact .cons k1 (.cons k0 (.nil))
          | cons _ _ => exact .nil
    | cons _ _ => exact .nil
theorem all_mk {K : PySem.W.Frag} {h : Heap} {mg : Str → Option Value} (X : K.In h) (G : h.Ns mainGlobals mg)
    {f0 : Addr} {od0 an0 : Option Addr} {sl0 : Array (Option Value)} {oc0 kV0 dc0 pm0 cd0 ct0 : Value}
    (a0 : PySem.W.nsIn K mainGlobals "is_integer" = some (some (.ref f0))) (l0 : K.lookup f0 = some ⟨oc0, od0, .func (PySem.W.fnOf "is_integer" "is_integer" (defArgs s_is_integer) (defBody s_is_integer) (defScope s_is_integer) .none kV0 dc0 pm0 an0 cd0 ct0), sl0⟩)
    (c0 : PySem.W.codeIn K cd0 "is_integer" = true) (k0 : PySem.W.keepIn K (.ref f0) = true)
    {f1 : Addr} {od1 an1 : Option Addr} {sl1 : Array (Option Value)} {oc1 kV1 dc1 pm1 cd1 ct1 : Value}
    (a1 : PySem.W.nsIn K mainGlobals "primes_of" = some (some (.ref f1))) (l1 : K.lookup f1 = some ⟨oc1, od1, .func (PySem.W.fnOf "primes_of" "primes_of" (defArgs s_primes_of) (defBody s_primes_of) (defScope s_primes_of) .none kV1 dc1 pm1 an1 cd1 ct1), sl1⟩)
    (c1 : PySem.W.codeIn K cd1 "primes_of" = true) (k1 : PySem.W.keepIn K (.ref f1) = true)
    {f2 : Addr} {od2 an2 : Option Addr} {sl2 : Array (Option Value)} {oc2 kV2 dc2 pm2 cd2 ct2 : Value}
    (a2 : PySem.W.nsIn K mainGlobals "part_at" = some (some (.ref f2))) (l2 : K.lookup f2 = some ⟨oc2, od2, .func (PySem.W.fnOf "part_at" "part_at" (defArgs s_part_at) (defBody s_part_at) (defScope s_part_at) .none kV2 dc2 pm2 an2 cd2 ct2), sl2⟩)
    (c2 : PySem.W.codeIn K cd2 "part_at" = true) (k2 : PySem.W.keepIn K (.ref f2) = true)
    {f3 : Addr} {od3 an3 : Option Addr} {sl3 : Array (Option Value)} {oc3 kV3 dc3 pm3 cd3 ct3 : Value}
    (a3 : PySem.W.nsIn K mainGlobals "common_divisor" = some (some (.ref f3))) (l3 : K.lookup f3 = some ⟨oc3, od3, .func (PySem.W.fnOf "common_divisor" "common_divisor" (defArgs s_common_divisor) (defBody s_common_divisor) (defScope s_common_divisor) .none kV3 dc3 pm3 an3 cd3 ct3), sl3⟩)
    (c3 : PySem.W.codeIn K cd3 "common_divisor" = true) (k3 : PySem.W.keepIn K (.ref f3) = true)
    {f4 : Addr} {od4 an4 : Option Addr} {sl4 : Array (Option Value)} {oc4 kV4 dc4 pm4 cd4 ct4 : Value}
    (a4 : PySem.W.nsIn K mainGlobals "is_period" = some (some (.ref f4))) (l4 : K.lookup f4 = some ⟨oc4, od4, .func (PySem.W.fnOf "is_period" "is_period" (defArgs s_is_period) (defBody s_is_period) (defScope s_is_period) .none kV4 dc4 pm4 an4 cd4 ct4), sl4⟩)
    (c4 : PySem.W.codeIn K cd4 "is_period" = true) (k4 : PySem.W.keepIn K (.ref f4) = true)
    {f5 : Addr} {od5 an5 : Option Addr} {sl5 : Array (Option Value)} {oc5 kV5 dc5 pm5 cd5 ct5 : Value}
    (a5 : PySem.W.nsIn K mainGlobals "is_cell" = some (some (.ref f5))) (l5 : K.lookup f5 = some ⟨oc5, od5, .func (PySem.W.fnOf "is_cell" "is_cell" (defArgs s_is_cell) (defBody s_is_cell) (defScope s_is_cell) .none kV5 dc5 pm5 an5 cd5 ct5), sl5⟩)
    (c5 : PySem.W.codeIn K cd5 "is_cell" = true) (k5 : PySem.W.keepIn K (.ref f5) = true)
    {f6 : Addr} {od6 an6 : Option Addr} {sl6 : Array (Option Value)} {oc6 kV6 dc6 pm6 cd6 ct6 : Value}
    (a6 : PySem.W.nsIn K mainGlobals "is_stripe" = some (some (.ref f6))) (l6 : K.lookup f6 = some ⟨oc6, od6, .func (PySem.W.fnOf "is_stripe" "is_stripe" (defArgs s_is_stripe) (defBody s_is_stripe) (defScope s_is_stripe) .none kV6 dc6 pm6 an6 cd6 ct6), sl6⟩)
    (c6 : PySem.W.codeIn K cd6 "is_stripe" = true) (k6 : PySem.W.keepIn K (.ref f6) = true)
    {f7 : Addr} {od7 an7 : Option Addr} {sl7 : Array (Option Value)} {oc7 kV7 dc7 pm7 cd7 ct7 : Value}
    (a7 : PySem.W.nsIn K mainGlobals "is_on" = some (some (.ref f7))) (l7 : K.lookup f7 = some ⟨oc7, od7, .func (PySem.W.fnOf "is_on" "is_on" (defArgs s_is_on) (defBody s_is_on) (defScope s_is_on) .none kV7 dc7 pm7 an7 cd7 ct7), sl7⟩)
    (c7 : PySem.W.codeIn K cd7 "is_on" = true) (k7 : PySem.W.keepIn K (.ref f7) = true)
    {f8 : Addr} {od8 an8 : Option Addr} {sl8 : Array (Option Value)} {oc8 kV8 dc8 pm8 cd8 ct8 : Value}
    (a8 : PySem.W.nsIn K mainGlobals "lies_on" = some (some (.ref f8))) (l8 : K.lookup f8 = some ⟨oc8, od8, .func (PySem.W.fnOf "lies_on" "lies_on" (defArgs s_lies_on) (defBody s_lies_on) (defScope s_lies_on) .none kV8 dc8 pm8 an8 cd8 ct8), sl8⟩)
    (c8 : PySem.W.codeIn K cd8 "lies_on" = true) (k8 : PySem.W.keepIn K (.ref f8) = true)
    {f9 : Addr} {od9 an9 : Option Addr} {sl9 : Array (Option Value)} {oc9 kV9 dc9 pm9 cd9 ct9 : Value}
    (a9 : PySem.W.nsIn K mainGlobals "dot" = some (some (.ref f9))) (l9 : K.lookup f9 = some ⟨oc9, od9, .func (PySem.W.fnOf "dot" "dot" (defArgs s_dot) (defBody s_dot) (defScope s_dot) .none kV9 dc9 pm9 an9 cd9 ct9), sl9⟩)
    (c9 : PySem.W.codeIn K cd9 "dot" = true) (k9 : PySem.W.keepIn K (.ref f9) = true)
    {f10 : Addr} {od10 an10 : Option Addr} {sl10 : Array (Option Value)} {oc10 kV10 dc10 pm10 cd10 ct10 : Value}
    (a10 : PySem.W.nsIn K mainGlobals "check_stripe" = some (some (.ref f10))) (l10 : K.lookup f10 = some ⟨oc10, od10, .func (PySem.W.fnOf "check_stripe" "check_stripe" (defArgs s_check_stripe) (defBody s_check_stripe) (defScope s_check_stripe) .none kV10 dc10 pm10 an10 cd10 ct10), sl10⟩)
    (c10 : PySem.W.codeIn K cd10 "check_stripe" = true) (k10 : PySem.W.keepIn K (.ref f10) = true)
    {f11 : Addr} {od11 an11 : Option Addr} {sl11 : Array (Option Value)} {oc11 kV11 dc11 pm11 cd11 ct11 : Value}
    (a11 : PySem.W.nsIn K mainGlobals "_law_deck" = some (some (.ref f11))) (l11 : K.lookup f11 = some ⟨oc11, od11, .func (PySem.W.fnOf "_law_deck" "_law_deck" (defArgs s__law_deck) (defBody s__law_deck) (defScope s__law_deck) .none kV11 dc11 pm11 an11 cd11 ct11), sl11⟩)
    (c11 : PySem.W.codeIn K cd11 "_law_deck" = true) (k11 : PySem.W.keepIn K (.ref f11) = true)
    {f12 : Addr} {od12 an12 : Option Addr} {sl12 : Array (Option Value)} {oc12 kV12 dc12 pm12 cd12 ct12 : Value}
    (a12 : PySem.W.nsIn K mainGlobals "_law_draw" = some (some (.ref f12))) (l12 : K.lookup f12 = some ⟨oc12, od12, .func (PySem.W.fnOf "_law_draw" "_law_draw" (defArgs s__law_draw) (defBody s__law_draw) (defScope s__law_draw) .none kV12 dc12 pm12 an12 cd12 ct12), sl12⟩)
    (c12 : PySem.W.codeIn K cd12 "_law_draw" = true) (k12 : PySem.W.keepIn K (.ref f12) = true)
    {f13 : Addr} {od13 an13 : Option Addr} {sl13 : Array (Option Value)} {oc13 kV13 dc13 pm13 cd13 ct13 : Value}
    (a13 : PySem.W.nsIn K mainGlobals "_law_pick" = some (some (.ref f13))) (l13 : K.lookup f13 = some ⟨oc13, od13, .func (PySem.W.fnOf "_law_pick" "_law_pick" (defArgs s__law_pick) (defBody s__law_pick) (defScope s__law_pick) .none kV13 dc13 pm13 an13 cd13 ct13), sl13⟩)
    (c13 : PySem.W.codeIn K cd13 "_law_pick" = true) (k13 : PySem.W.keepIn K (.ref f13) = true)
    {f14 : Addr} {od14 an14 : Option Addr} {sl14 : Array (Option Value)} {oc14 kV14 dc14 pm14 cd14 ct14 : Value}
    (a14 : PySem.W.nsIn K mainGlobals "_law_great" = some (some (.ref f14))) (l14 : K.lookup f14 = some ⟨oc14, od14, .func (PySem.W.fnOf "_law_great" "_law_great" (defArgs s__law_great) (defBody s__law_great) (defScope s__law_great) .none kV14 dc14 pm14 an14 cd14 ct14), sl14⟩)
    (c14 : PySem.W.codeIn K cd14 "_law_great" = true) (k14 : PySem.W.keepIn K (.ref f14) = true)
    {f15 : Addr} {od15 an15 : Option Addr} {sl15 : Array (Option Value)} {oc15 kV15 dc15 pm15 cd15 ct15 : Value}
    (a15 : PySem.W.nsIn K mainGlobals "_law_signed" = some (some (.ref f15))) (l15 : K.lookup f15 = some ⟨oc15, od15, .func (PySem.W.fnOf "_law_signed" "_law_signed" (defArgs s__law_signed) (defBody s__law_signed) (defScope s__law_signed) .none kV15 dc15 pm15 an15 cd15 ct15), sl15⟩)
    (c15 : PySem.W.codeIn K cd15 "_law_signed" = true) (k15 : PySem.W.keepIn K (.ref f15) = true)
    {f16 : Addr} {od16 an16 : Option Addr} {sl16 : Array (Option Value)} {oc16 kV16 dc16 pm16 cd16 ct16 : Value}
    (a16 : PySem.W.nsIn K mainGlobals "_law_powers" = some (some (.ref f16))) (l16 : K.lookup f16 = some ⟨oc16, od16, .func (PySem.W.fnOf "_law_powers" "_law_powers" (defArgs s__law_powers) (defBody s__law_powers) (defScope s__law_powers) .none kV16 dc16 pm16 an16 cd16 ct16), sl16⟩)
    (c16 : PySem.W.codeIn K cd16 "_law_powers" = true) (k16 : PySem.W.keepIn K (.ref f16) = true)
    {f17 : Addr} {od17 an17 : Option Addr} {sl17 : Array (Option Value)} {oc17 kV17 dc17 pm17 cd17 ct17 : Value}
    (a17 : PySem.W.nsIn K mainGlobals "_law_product" = some (some (.ref f17))) (l17 : K.lookup f17 = some ⟨oc17, od17, .func (PySem.W.fnOf "_law_product" "_law_product" (defArgs s__law_product) (defBody s__law_product) (defScope s__law_product) .none kV17 dc17 pm17 an17 cd17 ct17), sl17⟩)
    (c17 : PySem.W.codeIn K cd17 "_law_product" = true) (k17 : PySem.W.keepIn K (.ref f17) = true)
    {f18 : Addr} {od18 an18 : Option Addr} {sl18 : Array (Option Value)} {oc18 kV18 dc18 pm18 cd18 ct18 : Value}
    (a18 : PySem.W.nsIn K mainGlobals "_law_numbers" = some (some (.ref f18))) (l18 : K.lookup f18 = some ⟨oc18, od18, .func (PySem.W.fnOf "_law_numbers" "_law_numbers" (defArgs s__law_numbers) (defBody s__law_numbers) (defScope s__law_numbers) .none kV18 dc18 pm18 an18 cd18 ct18), sl18⟩)
    (c18 : PySem.W.codeIn K cd18 "_law_numbers" = true) (k18 : PySem.W.keepIn K (.ref f18) = true)
    {f19 : Addr} {od19 an19 : Option Addr} {sl19 : Array (Option Value)} {oc19 kV19 dc19 pm19 cd19 ct19 : Value}
    (a19 : PySem.W.nsIn K mainGlobals "_law_unit" = some (some (.ref f19))) (l19 : K.lookup f19 = some ⟨oc19, od19, .func (PySem.W.fnOf "_law_unit" "_law_unit" (defArgs s__law_unit) (defBody s__law_unit) (defScope s__law_unit) .none kV19 dc19 pm19 an19 cd19 ct19), sl19⟩)
    (c19 : PySem.W.codeIn K cd19 "_law_unit" = true) (k19 : PySem.W.keepIn K (.ref f19) = true)
    {f20 : Addr} {od20 an20 : Option Addr} {sl20 : Array (Option Value)} {oc20 kV20 dc20 pm20 cd20 ct20 : Value}
    (a20 : PySem.W.nsIn K mainGlobals "_law_along" = some (some (.ref f20))) (l20 : K.lookup f20 = some ⟨oc20, od20, .func (PySem.W.fnOf "_law_along" "_law_along" (defArgs s__law_along) (defBody s__law_along) (defScope s__law_along) .none kV20 dc20 pm20 an20 cd20 ct20), sl20⟩)
    (c20 : PySem.W.codeIn K cd20 "_law_along" = true) (k20 : PySem.W.keepIn K (.ref f20) = true)
    {f21 : Addr} {od21 an21 : Option Addr} {sl21 : Array (Option Value)} {oc21 kV21 dc21 pm21 cd21 ct21 : Value}
    (a21 : PySem.W.nsIn K mainGlobals "_law_common" = some (some (.ref f21))) (l21 : K.lookup f21 = some ⟨oc21, od21, .func (PySem.W.fnOf "_law_common" "_law_common" (defArgs s__law_common) (defBody s__law_common) (defScope s__law_common) .none kV21 dc21 pm21 an21 cd21 ct21), sl21⟩)
    (c21 : PySem.W.codeIn K cd21 "_law_common" = true) (k21 : PySem.W.keepIn K (.ref f21) = true)
    {f22 : Addr} {od22 an22 : Option Addr} {sl22 : Array (Option Value)} {oc22 kV22 dc22 pm22 cd22 ct22 : Value}
    (a22 : PySem.W.nsIn K mainGlobals "_law_moved" = some (some (.ref f22))) (l22 : K.lookup f22 = some ⟨oc22, od22, .func (PySem.W.fnOf "_law_moved" "_law_moved" (defArgs s__law_moved) (defBody s__law_moved) (defScope s__law_moved) .none kV22 dc22 pm22 an22 cd22 ct22), sl22⟩)
    (c22 : PySem.W.codeIn K cd22 "_law_moved" = true) (k22 : PySem.W.keepIn K (.ref f22) = true)
    {f23 : Addr} {od23 an23 : Option Addr} {sl23 : Array (Option Value)} {oc23 kV23 dc23 pm23 cd23 ct23 : Value}
    (a23 : PySem.W.nsIn K mainGlobals "_law_is_due" = some (some (.ref f23))) (l23 : K.lookup f23 = some ⟨oc23, od23, .func (PySem.W.fnOf "_law_is_due" "_law_is_due" (defArgs s__law_is_due) (defBody s__law_is_due) (defScope s__law_is_due) .none kV23 dc23 pm23 an23 cd23 ct23), sl23⟩)
    (c23 : PySem.W.codeIn K cd23 "_law_is_due" = true) (k23 : PySem.W.keepIn K (.ref f23) = true)
    {f24 : Addr} {od24 an24 : Option Addr} {sl24 : Array (Option Value)} {oc24 kV24 dc24 pm24 cd24 ct24 : Value}
    (a24 : PySem.W.nsIn K mainGlobals "_law_step" = some (some (.ref f24))) (l24 : K.lookup f24 = some ⟨oc24, od24, .func (PySem.W.fnOf "_law_step" "_law_step" (defArgs s__law_step) (defBody s__law_step) (defScope s__law_step) .none kV24 dc24 pm24 an24 cd24 ct24), sl24⟩)
    (c24 : PySem.W.codeIn K cd24 "_law_step" = true) (k24 : PySem.W.keepIn K (.ref f24) = true)
    {f25 : Addr} {od25 an25 : Option Addr} {sl25 : Array (Option Value)} {oc25 kV25 dc25 pm25 cd25 ct25 : Value}
    (a25 : PySem.W.nsIn K mainGlobals "_law_comes_again" = some (some (.ref f25))) (l25 : K.lookup f25 = some ⟨oc25, od25, .func (PySem.W.fnOf "_law_comes_again" "_law_comes_again" (defArgs s__law_comes_again) (defBody s__law_comes_again) (defScope s__law_comes_again) .none kV25 dc25 pm25 an25 cd25 ct25), sl25⟩)
    (c25 : PySem.W.codeIn K cd25 "_law_comes_again" = true) (k25 : PySem.W.keepIn K (.ref f25) = true)
    {f26 : Addr} {od26 an26 : Option Addr} {sl26 : Array (Option Value)} {oc26 kV26 dc26 pm26 cd26 ct26 : Value}
    (a26 : PySem.W.nsIn K mainGlobals "_law_is_of_parts" = some (some (.ref f26))) (l26 : K.lookup f26 = some ⟨oc26, od26, .func (PySem.W.fnOf "_law_is_of_parts" "_law_is_of_parts" (defArgs s__law_is_of_parts) (defBody s__law_is_of_parts) (defScope s__law_is_of_parts) .none kV26 dc26 pm26 an26 cd26 ct26), sl26⟩)
    (c26 : PySem.W.codeIn K cd26 "_law_is_of_parts" = true) (k26 : PySem.W.keepIn K (.ref f26) = true)
    {f27 : Addr} {od27 an27 : Option Addr} {sl27 : Array (Option Value)} {oc27 kV27 dc27 pm27 cd27 ct27 : Value}
    (a27 : PySem.W.nsIn K mainGlobals "law" = some (some (.ref f27))) (l27 : K.lookup f27 = some ⟨oc27, od27, .func (PySem.W.fnOf "law" "law" (defArgs s_law) (defBody s_law) (defScope s_law) .none kV27 dc27 pm27 an27 cd27 ct27), sl27⟩)
    (c27 : PySem.W.codeIn K cd27 "law" = true) (k27 : PySem.W.keepIn K (.ref f27) = true)
    (z0 : PySem.W.nsIn K mainGlobals "abs" = some none)
    (z1 : PySem.W.nsIn K mainGlobals "all" = some none)
    (z2 : PySem.W.nsIn K mainGlobals "bool" = some none)
    (z3 : PySem.W.nsIn K mainGlobals "int" = some none)
    (z4 : PySem.W.nsIn K mainGlobals "isinstance" = some none)
    (z5 : PySem.W.nsIn K mainGlobals "len" = some none)
    (z6 : PySem.W.nsIn K mainGlobals "list" = some none)
    (z7 : PySem.W.nsIn K mainGlobals "max" = some none)
    (z8 : PySem.W.nsIn K mainGlobals "range" = some none)
    (z9 : PySem.W.nsIn K mainGlobals "repr" = some none)
    (z10 : PySem.W.nsIn K mainGlobals "sorted" = some none)
    (z11 : PySem.W.nsIn K mainGlobals "sum" = some none)
    (z12 : PySem.W.nsIn K mainGlobals "tuple" = some none)
    (z13 : PySem.W.nsIn K mainGlobals "zip" = some none)
    (b0 : PySem.W.nsIn K mainGlobals "gcd" = some (some (.builtin "math.gcd")))
    (v0 : PySem.W.nsIn K mainGlobals "PRIMES" = some (some (.ref (He.ga K "PRIMES")))) (w0 : He.tupB K "PRIMES" (([2, 3, 5, 7, 11, 13, 17, 19, 23, 29] : List Int).map He.Dv.int) = true)
    {t1 : Tok} (v1 : PySem.W.nsIn K mainGlobals "MOST_BREADTH" = some (some (.int 3 t1)))
    {t2 : Tok} (v2 : PySem.W.nsIn K mainGlobals "MOST_PRIMES_MULTIPLIED" = some (some (.int 1000 t2)))
    : Nonempty (Txt K mg) := by
  have F0 := fun_mk (st := s_is_integer) l0 c0 k0
  have F1 := fun_mk (st := s_primes_of) l1 c1 k1
  have F2 := fun_mk (st := s_part_at) l2 c2 k2
  have F3 := fun_mk (st := s_common_divisor) l3 c3 k3
  have F4 := fun_mk (st := s_is_period) l4 c4 k4
  have F5 := fun_mk (st := s_is_cell) l5 c5 k5
  have F6 := fun_mk (st := s_is_stripe) l6 c6 k6
  have F7 := fun_mk (st := s_is_on) l7 c7 k7
  have F8 := fun_mk (st := s_lies_on) l8 c8 k8
  have F9 := fun_mk (st := s_dot) l9 c9 k9
  have F10 := fun_mk (st := s_check_stripe) l10 c10 k10
  have F11 := fun_mk (st := s__law_deck) l11 c11 k11
  have F12 := fun_mk (st := s__law_draw) l12 c12 k12
  have F13 := fun_mk (st := s__law_pick) l13 c13 k13
  have F14 := fun_mk (st := s__law_great) l14 c14 k14
  have F15 := fun_mk (st := s__law_signed) l15 c15 k15
  have F16 := fun_mk (st := s__law_powers) l16 c16 k16
  have F17 := fun_mk (st := s__law_product) l17 c17 k17
  have F18 := fun_mk (st := s__law_numbers) l18 c18 k18
  have F19 := fun_mk (st := s__law_unit) l19 c19 k19
  have F20 := fun_mk (st := s__law_along) l20 c20 k20
  have F21 := fun_mk (st := s__law_common) l21 c21 k21
  have F22 := fun_mk (st := s__law_moved) l22 c22 k22
  have F23 := fun_mk (st := s__law_is_due) l23 c23 k23
  have F24 := fun_mk (st := s__law_step) l24 c24 k24
  have F25 := fun_mk (st := s__law_comes_again) l25 c25 k25
  have F26 := fun_mk (st := s__law_is_of_parts) l26 c26 k26
  have F27 := fun_mk (st := s_law) l27 c27 k27
  exact ⟨{
    a_is_integer := f0
    d_is_integer := _
    F_is_integer := F0
    m_is_integer := PySem.W.mg_of X G a0
    b_is_integer := F0.binds (ps := ["thing"]) fun _ _ _ _ _ _ us hl => match us, hl with | [_], _ => rfl
    a_primes_of := f1
    d_primes_of := _
    F_primes_of := F1
    m_primes_of := PySem.W.mg_of X G a1
    b_primes_of := F1.binds (ps := ["number"]) fun _ _ _ _ _ _ us hl => match us, hl with | [_], _ => rfl
    a_part_at := f2
    d_part_at := _
    F_part_at := F2
    m_part_at := PySem.W.mg_of X G a2
    b_part_at := F2.binds (ps := ["number", "p"]) fun _ _ _ _ _ _ us hl => match us, hl with | [_, _], _ => rfl
    a_common_divisor := f3
    d_common_divisor := _
    F_common_divisor := F3
    m_common_divisor := PySem.W.mg_of X G a3
    b_common_divisor := F3.binds (ps := ["number", "others"]) fun _ _ _ _ _ _ us hl => match us, hl with | [_, _], _ => rfl
    a_is_period := f4
    d_is_period := _
    F_is_period := F4
    m_is_period := PySem.W.mg_of X G a4
    b_is_period := F4.binds (ps := ["thing"]) fun _ _ _ _ _ _ us hl => match us, hl with | [_], _ => rfl
    a_is_cell := f5
    d_is_cell := _
    F_is_cell := F5
    m_is_cell := PySem.W.mg_of X G a5
    b_is_cell := F5.binds (ps := ["thing"]) fun _ _ _ _ _ _ us hl => match us, hl with | [_], _ => rfl
    a_is_stripe := f6
    d_is_stripe := _
    F_is_stripe := F6
    m_is_stripe := PySem.W.mg_of X G a6
    b_is_stripe := F6.binds (ps := ["thing"]) fun _ _ _ _ _ _ us hl => match us, hl with | [_], _ => rfl
    a_is_on := f7
    d_is_on := _
    F_is_on := F7
    m_is_on := PySem.W.mg_of X G a7
    b_is_on := F7.binds (ps := ["stripe", "cell"]) fun _ _ _ _ _ _ us hl => match us, hl with | [_, _], _ => rfl
    a_lies_on := f8
    d_lies_on := _
    F_lies_on := F8
    m_lies_on := PySem.W.mg_of X G a8
    b_lies_on := F8.binds (ps := ["stripe", "cell"]) fun _ _ _ _ _ _ us hl => match us, hl with | [_, _], _ => rfl
    a_dot := f9
    d_dot := _
    F_dot := F9
    m_dot := PySem.W.mg_of X G a9
    b_dot := F9.binds (ps := ["c", "x"]) fun _ _ _ _ _ _ us hl => match us, hl with | [_, _], _ => rfl
    a_check_stripe := f10
    d_check_stripe := _
    F_check_stripe := F10
    m_check_stripe := PySem.W.mg_of X G a10
    b_check_stripe := F10.binds (ps := ["thing"]) fun _ _ _ _ _ _ us hl => match us, hl with | [_], _ => rfl
    a__law_deck := f11
    d__law_deck := _
    F__law_deck := F11
    m__law_deck := PySem.W.mg_of X G a11
    b__law_deck := F11.binds (ps := ["_law_script"]) fun _ _ _ _ _ _ us hl => match us, hl with | [_], _ => rfl
    a__law_draw := f12
    d__law_draw := _
    F__law_draw := F12
    m__law_draw := PySem.W.mg_of X G a12
    b__law_draw := F12.binds (ps := ["_law_deck_here", "_law_many"]) fun _ _ _ _ _ _ us hl => match us, hl with | [_, _], _ => rfl
    a__law_pick := f13
    d__law_pick := _
    F__law_pick := F13
    m__law_pick := PySem.W.mg_of X G a13
    b__law_pick := F13.binds (ps := ["_law_deck_here", "_law_some"]) fun _ _ _ _ _ _ us hl => match us, hl with | [_, _], _ => rfl
    a__law_great := f14
    d__law_great := _
    F__law_great := F14
    m__law_great := PySem.W.mg_of X G a14
    b__law_great := F14.binds (ps := ["_law_deck_here", "_law_top"]) fun _ _ _ _ _ _ us hl => match us, hl with | [_, _], _ => rfl
    a__law_signed := f15
    d__law_signed := _
    F__law_signed := F15
    m__law_signed := PySem.W.mg_of X G a15
    b__law_signed := F15.binds (ps := ["_law_deck_here", "_law_top"]) fun _ _ _ _ _ _ us hl => match us, hl with | [_, _], _ => rfl
    a__law_powers := f16
    d__law_powers := _
    F__law_powers := F16
    m__law_powers := PySem.W.mg_of X G a16
    b__law_powers := F16.binds (ps := ["_law_deck_here", "_law_top", "_law_most"]) fun _ _ _ _ _ _ us hl => match us, hl with | [_, _, _], _ => rfl
    a__law_product := f17
    d__law_product := _
    F__law_product := F17
    m__law_product := PySem.W.mg_of X G a17
    b__law_product := F17.binds (ps := ["_law_some"]) fun _ _ _ _ _ _ us hl => match us, hl with | [_], _ => rfl
    a__law_numbers := f18
    d__law_numbers := _
    F__law_numbers := F18
    m__law_numbers := PySem.W.mg_of X G a18
    b__law_numbers := F18.binds (ps := ["_law_deck_here", "_law_powers_here", "_law_m", "_law_d"]) fun _ _ _ _ _ _ us hl => match us, hl with | [_, _, _, _], _ => rfl
    a__law_unit := f19
    d__law_unit := _
    F__law_unit := F19
    m__law_unit := PySem.W.mg_of X G a19
    b__law_unit := F19.binds (ps := ["_law_deck_here", "_law_powers_here", "_law_m"]) fun _ _ _ _ _ _ us hl => match us, hl with | [_, _, _], _ => rfl
    a__law_along := f20
    d__law_along := _
    F__law_along := F20
    m__law_along := PySem.W.mg_of X G a20
    b__law_along := F20.binds (ps := ["_law_c", "_law_x"]) fun _ _ _ _ _ _ us hl => match us, hl with | [_, _], _ => rfl
    a__law_common := f21
    d__law_common := _
    F__law_common := F21
    m__law_common := PySem.W.mg_of X G a21
    b__law_common := F21.binds (ps := ["_law_one", "_law_other"]) fun _ _ _ _ _ _ us hl => match us, hl with | [_, _], _ => rfl
    a__law_moved := f22
    d__law_moved := _
    F__law_moved := F22
    m__law_moved := PySem.W.mg_of X G a22
    b__law_moved := F22.binds (ps := ["_law_x", "_law_t", "_law_k"]) fun _ _ _ _ _ _ us hl => match us, hl with | [_, _, _], _ => rfl
    a__law_is_due := f23
    d__law_is_due := _
    F__law_is_due := F23
    m__law_is_due := PySem.W.mg_of X G a23
    b__law_is_due := F23.binds (ps := ["_law_stripe", "_law_cell", "_law_due"]) fun _ _ _ _ _ _ us hl => match us, hl with | [_, _, _], _ => rfl
    a__law_step := f24
    d__law_step := _
    F__law_step := F24
    m__law_step := PySem.W.mg_of X G a24
    b__law_step := F24.binds (ps := ["_law_deck_here", "_law_powers_here", "_law_d"]) fun _ _ _ _ _ _ us hl => match us, hl with | [_, _, _], _ => rfl
    a__law_comes_again := f25
    d__law_comes_again := _
    F__law_comes_again := F25
    m__law_comes_again := PySem.W.mg_of X G a25
    b__law_comes_again := F25.binds (ps := ["_law_deck_here", "_law_stripe", "_law_x", "_law_t"]) fun _ _ _ _ _ _ us hl => match us, hl with | [_, _, _, _], _ => rfl
    a__law_is_of_parts := f26
    d__law_is_of_parts := _
    F__law_is_of_parts := F26
    m__law_is_of_parts := PySem.W.mg_of X G a26
    b__law_is_of_parts := F26.binds (ps := ["_law_deck_here", "_law_powers_here", "_law_stripe", "_law_x"]) fun _ _ _ _ _ _ us hl => match us, hl with | [_, _, _, _], _ => rfl
    a_law := f27
    d_law := _
    F_law := F27
    m_law := PySem.W.mg_of X G a27
    b_law := F27.binds (ps := ["_law_script"]) fun _ _ _ _ _ _ us hl => match us, hl with | [_], _ => rfl
    n_abs := PySem.W.mg_none_of X G z0
    n_all := PySem.W.mg_none_of X G z1
    n_bool := PySem.W.mg_none_of X G z2
    n_int := PySem.W.mg_none_of X G z3
    n_isinstance := PySem.W.mg_none_of X G z4
    n_len := PySem.W.mg_none_of X G z5
    n_list := PySem.W.mg_none_of X G z6
    n_max := PySem.W.mg_none_of X G z7
    n_range := PySem.W.mg_none_of X G z8
    n_repr := PySem.W.mg_none_of X G z9
    n_sorted := PySem.W.mg_none_of X G z10
    n_sum := PySem.W.mg_none_of X G z11
    n_tuple := PySem.W.mg_none_of X G z12
    n_zip := PySem.W.mg_none_of X G z13
    kb_is_on_0_cell_stripe := mkb_is_on_0_cell_stripe F7
    m_gcd := PySem.W.mg_of X G b0
    a_PRIMES := He.ga K "PRIMES"
    m_PRIMES := PySem.W.mg_of X G v0
    t_PRIMES := fun H => He.tupB_ok w0 H
    m_MOST_BREADTH := ⟨_, PySem.W.mg_of X G v1⟩
    m_MOST_PRIMES_MULTIPLIED := ⟨_, PySem.W.mg_of X G v2⟩
  }⟩
theorem law_at {K : PySem.W.Frag} {mg : Str → Option Value} {fa : Addr} (T : Txt K mg) (hfa : mg "law" = some (.ref fa)) : fa = T.a_law := by
  have e := hfa.symm.trans T.m_law
  injection e with e
  injection e
theorem law_binds {K : PySem.W.Frag} {mg : Str → Option Value} (T : Txt K mg) (s : Shared) (u : Value) : BindsTo s T.d_law ⟨[u], []⟩ [("_law_script", u)] := by
  obtain ⟨oc, od, kV, doc, pm, an, cdv, ct, osl, e, lk, hcd⟩ := T.F_law.ex
  rw [e]
  exact .of_eq rfl
theorem all_end {l : PySem.W.OpenLaw} {w : World} {K : PySem.W.Frag} {h : Heap} {mg : Str → Option Value} {fa : Addr} (X : K.In h) (G : h.Ns mainGlobals mg) (hfa : mg "law" = some (.ref fa))
    {f0 : Addr} {od0 an0 : Option Addr} {sl0 : Array (Option Value)} {oc0 kV0 dc0 pm0 cd0 ct0 : Value}
    (a0 : PySem.W.nsIn K mainGlobals "is_integer" = some (some (.ref f0))) (l0 : K.lookup f0 = some ⟨oc0, od0, .func (PySem.W.fnOf "is_integer" "is_integer" (defArgs s_is_integer) (defBody s_is_integer) (defScope s_is_integer) .none kV0 dc0 pm0 an0 cd0 ct0), sl0⟩)
    (c0 : PySem.W.codeIn K cd0 "is_integer" = true) (k0 : PySem.W.keepIn K (.ref f0) = true)
    {f1 : Addr} {od1 an1 : Option Addr} {sl1 : Array (Option Value)} {oc1 kV1 dc1 pm1 cd1 ct1 : Value}
    (a1 : PySem.W.nsIn K mainGlobals "primes_of" = some (some (.ref f1))) (l1 : K.lookup f1 = some ⟨oc1, od1, .func (PySem.W.fnOf "primes_of" "primes_of" (defArgs s_primes_of) (defBody s_primes_of) (defScope s_primes_of) .none kV1 dc1 pm1 an1 cd1 ct1), sl1⟩)
    (c1 : PySem.W.codeIn K cd1 "primes_of" = true) (k1 : PySem.W.keepIn K (.ref f1) = true)
    {f2 : Addr} {od2 an2 : Option Addr} {sl2 : Array (Option Value)} {oc2 kV2 dc2 pm2 cd2 ct2 : Value}
    (a2 : PySem.W.nsIn K mainGlobals "part_at" = some (some (.ref f2))) (l2 : K.lookup f2 = some ⟨oc2, od2, .func (PySem.W.fnOf "part_at" "part_at" (defArgs s_part_at) (defBody s_part_at) (defScope s_part_at) .none kV2 dc2 pm2 an2 cd2 ct2), sl2⟩)
    (c2 : PySem.W.codeIn K cd2 "part_at" = true) (k2 : PySem.W.keepIn K (.ref f2) = true)
    {f3 : Addr} {od3 an3 : Option Addr} {sl3 : Array (Option Value)} {oc3 kV3 dc3 pm3 cd3 ct3 : Value}
    (a3 : PySem.W.nsIn K mainGlobals "common_divisor" = some (some (.ref f3))) (l3 : K.lookup f3 = some ⟨oc3, od3, .func (PySem.W.fnOf "common_divisor" "common_divisor" (defArgs s_common_divisor) (defBody s_common_divisor) (defScope s_common_divisor) .none kV3 dc3 pm3 an3 cd3 ct3), sl3⟩)
    (c3 : PySem.W.codeIn K cd3 "common_divisor" = true) (k3 : PySem.W.keepIn K (.ref f3) = true)
    {f4 : Addr} {od4 an4 : Option Addr} {sl4 : Array (Option Value)} {oc4 kV4 dc4 pm4 cd4 ct4 : Value}
    (a4 : PySem.W.nsIn K mainGlobals "is_period" = some (some (.ref f4))) (l4 : K.lookup f4 = some ⟨oc4, od4, .func (PySem.W.fnOf "is_period" "is_period" (defArgs s_is_period) (defBody s_is_period) (defScope s_is_period) .none kV4 dc4 pm4 an4 cd4 ct4), sl4⟩)
    (c4 : PySem.W.codeIn K cd4 "is_period" = true) (k4 : PySem.W.keepIn K (.ref f4) = true)
    {f5 : Addr} {od5 an5 : Option Addr} {sl5 : Array (Option Value)} {oc5 kV5 dc5 pm5 cd5 ct5 : Value}
    (a5 : PySem.W.nsIn K mainGlobals "is_cell" = some (some (.ref f5))) (l5 : K.lookup f5 = some ⟨oc5, od5, .func (PySem.W.fnOf "is_cell" "is_cell" (defArgs s_is_cell) (defBody s_is_cell) (defScope s_is_cell) .none kV5 dc5 pm5 an5 cd5 ct5), sl5⟩)
    (c5 : PySem.W.codeIn K cd5 "is_cell" = true) (k5 : PySem.W.keepIn K (.ref f5) = true)
    {f6 : Addr} {od6 an6 : Option Addr} {sl6 : Array (Option Value)} {oc6 kV6 dc6 pm6 cd6 ct6 : Value}
    (a6 : PySem.W.nsIn K mainGlobals "is_stripe" = some (some (.ref f6))) (l6 : K.lookup f6 = some ⟨oc6, od6, .func (PySem.W.fnOf "is_stripe" "is_stripe" (defArgs s_is_stripe) (defBody s_is_stripe) (defScope s_is_stripe) .none kV6 dc6 pm6 an6 cd6 ct6), sl6⟩)
    (c6 : PySem.W.codeIn K cd6 "is_stripe" = true) (k6 : PySem.W.keepIn K (.ref f6) = true)
    {f7 : Addr} {od7 an7 : Option Addr} {sl7 : Array (Option Value)} {oc7 kV7 dc7 pm7 cd7 ct7 : Value}
    (a7 : PySem.W.nsIn K mainGlobals "is_on" = some (some (.ref f7))) (l7 : K.lookup f7 = some ⟨oc7, od7, .func (PySem.W.fnOf "is_on" "is_on" (defArgs s_is_on) (defBody s_is_on) (defScope s_is_on) .none kV7 dc7 pm7 an7 cd7 ct7), sl7⟩)
    (c7 : PySem.W.codeIn K cd7 "is_on" = true) (k7 : PySem.W.keepIn K (.ref f7) = true)
    {f8 : Addr} {od8 an8 : Option Addr} {sl8 : Array (Option Value)} {oc8 kV8 dc8 pm8 cd8 ct8 : Value}
    (a8 : PySem.W.nsIn K mainGlobals "lies_on" = some (some (.ref f8))) (l8 : K.lookup f8 = some ⟨oc8, od8, .func (PySem.W.fnOf "lies_on" "lies_on" (defArgs s_lies_on) (defBody s_lies_on) (defScope s_lies_on) .none kV8 dc8 pm8 an8 cd8 ct8), sl8⟩)
    (c8 : PySem.W.codeIn K cd8 "lies_on" = true) (k8 : PySem.W.keepIn K (.ref f8) = true)
    {f9 : Addr} {od9 an9 : Option Addr} {sl9 : Array (Option Value)} {oc9 kV9 dc9 pm9 cd9 ct9 : Value}
    (a9 : PySem.W.nsIn K mainGlobals "dot" = some (some (.ref f9))) (l9 : K.lookup f9 = some ⟨oc9, od9, .func (PySem.W.fnOf "dot" "dot" (defArgs s_dot) (defBody s_dot) (defScope s_dot) .none kV9 dc9 pm9 an9 cd9 ct9), sl9⟩)
    (c9 : PySem.W.codeIn K cd9 "dot" = true) (k9 : PySem.W.keepIn K (.ref f9) = true)
    {f10 : Addr} {od10 an10 : Option Addr} {sl10 : Array (Option Value)} {oc10 kV10 dc10 pm10 cd10 ct10 : Value}
    (a10 : PySem.W.nsIn K mainGlobals "check_stripe" = some (some (.ref f10))) (l10 : K.lookup f10 = some ⟨oc10, od10, .func (PySem.W.fnOf "check_stripe" "check_stripe" (defArgs s_check_stripe) (defBody s_check_stripe) (defScope s_check_stripe) .none kV10 dc10 pm10 an10 cd10 ct10), sl10⟩)
    (c10 : PySem.W.codeIn K cd10 "check_stripe" = true) (k10 : PySem.W.keepIn K (.ref f10) = true)
    {f11 : Addr} {od11 an11 : Option Addr} {sl11 : Array (Option Value)} {oc11 kV11 dc11 pm11 cd11 ct11 : Value}
    (a11 : PySem.W.nsIn K mainGlobals "_law_deck" = some (some (.ref f11))) (l11 : K.lookup f11 = some ⟨oc11, od11, .func (PySem.W.fnOf "_law_deck" "_law_deck" (defArgs s__law_deck) (defBody s__law_deck) (defScope s__law_deck) .none kV11 dc11 pm11 an11 cd11 ct11), sl11⟩)
    (c11 : PySem.W.codeIn K cd11 "_law_deck" = true) (k11 : PySem.W.keepIn K (.ref f11) = true)
    {f12 : Addr} {od12 an12 : Option Addr} {sl12 : Array (Option Value)} {oc12 kV12 dc12 pm12 cd12 ct12 : Value}
    (a12 : PySem.W.nsIn K mainGlobals "_law_draw" = some (some (.ref f12))) (l12 : K.lookup f12 = some ⟨oc12, od12, .func (PySem.W.fnOf "_law_draw" "_law_draw" (defArgs s__law_draw) (defBody s__law_draw) (defScope s__law_draw) .none kV12 dc12 pm12 an12 cd12 ct12), sl12⟩)
    (c12 : PySem.W.codeIn K cd12 "_law_draw" = true) (k12 : PySem.W.keepIn K (.ref f12) = true)
    {f13 : Addr} {od13 an13 : Option Addr} {sl13 : Array (Option Value)} {oc13 kV13 dc13 pm13 cd13 ct13 : Value}
    (a13 : PySem.W.nsIn K mainGlobals "_law_pick" = some (some (.ref f13))) (l13 : K.lookup f13 = some ⟨oc13, od13, .func (PySem.W.fnOf "_law_pick" "_law_pick" (defArgs s__law_pick) (defBody s__law_pick) (defScope s__law_pick) .none kV13 dc13 pm13 an13 cd13 ct13), sl13⟩)
    (c13 : PySem.W.codeIn K cd13 "_law_pick" = true) (k13 : PySem.W.keepIn K (.ref f13) = true)
    {f14 : Addr} {od14 an14 : Option Addr} {sl14 : Array (Option Value)} {oc14 kV14 dc14 pm14 cd14 ct14 : Value}
    (a14 : PySem.W.nsIn K mainGlobals "_law_great" = some (some (.ref f14))) (l14 : K.lookup f14 = some ⟨oc14, od14, .func (PySem.W.fnOf "_law_great" "_law_great" (defArgs s__law_great) (defBody s__law_great) (defScope s__law_great) .none kV14 dc14 pm14 an14 cd14 ct14), sl14⟩)
    (c14 : PySem.W.codeIn K cd14 "_law_great" = true) (k14 : PySem.W.keepIn K (.ref f14) = true)
    {f15 : Addr} {od15 an15 : Option Addr} {sl15 : Array (Option Value)} {oc15 kV15 dc15 pm15 cd15 ct15 : Value}
    (a15 : PySem.W.nsIn K mainGlobals "_law_signed" = some (some (.ref f15))) (l15 : K.lookup f15 = some ⟨oc15, od15, .func (PySem.W.fnOf "_law_signed" "_law_signed" (defArgs s__law_signed) (defBody s__law_signed) (defScope s__law_signed) .none kV15 dc15 pm15 an15 cd15 ct15), sl15⟩)
    (c15 : PySem.W.codeIn K cd15 "_law_signed" = true) (k15 : PySem.W.keepIn K (.ref f15) = true)
    {f16 : Addr} {od16 an16 : Option Addr} {sl16 : Array (Option Value)} {oc16 kV16 dc16 pm16 cd16 ct16 : Value}
    (a16 : PySem.W.nsIn K mainGlobals "_law_powers" = some (some (.ref f16))) (l16 : K.lookup f16 = some ⟨oc16, od16, .func (PySem.W.fnOf "_law_powers" "_law_powers" (defArgs s__law_powers) (defBody s__law_powers) (defScope s__law_powers) .none kV16 dc16 pm16 an16 cd16 ct16), sl16⟩)
    (c16 : PySem.W.codeIn K cd16 "_law_powers" = true) (k16 : PySem.W.keepIn K (.ref f16) = true)
    {f17 : Addr} {od17 an17 : Option Addr} {sl17 : Array (Option Value)} {oc17 kV17 dc17 pm17 cd17 ct17 : Value}
    (a17 : PySem.W.nsIn K mainGlobals "_law_product" = some (some (.ref f17))) (l17 : K.lookup f17 = some ⟨oc17, od17, .func (PySem.W.fnOf "_law_product" "_law_product" (defArgs s__law_product) (defBody s__law_product) (defScope s__law_product) .none kV17 dc17 pm17 an17 cd17 ct17), sl17⟩)
    (c17 : PySem.W.codeIn K cd17 "_law_product" = true) (k17 : PySem.W.keepIn K (.ref f17) = true)
    {f18 : Addr} {od18 an18 : Option Addr} {sl18 : Array (Option Value)} {oc18 kV18 dc18 pm18 cd18 ct18 : Value}
    (a18 : PySem.W.nsIn K mainGlobals "_law_numbers" = some (some (.ref f18))) (l18 : K.lookup f18 = some ⟨oc18, od18, .func (PySem.W.fnOf "_law_numbers" "_law_numbers" (defArgs s__law_numbers) (defBody s__law_numbers) (defScope s__law_numbers) .none kV18 dc18 pm18 an18 cd18 ct18), sl18⟩)
    (c18 : PySem.W.codeIn K cd18 "_law_numbers" = true) (k18 : PySem.W.keepIn K (.ref f18) = true)
    {f19 : Addr} {od19 an19 : Option Addr} {sl19 : Array (Option Value)} {oc19 kV19 dc19 pm19 cd19 ct19 : Value}
    (a19 : PySem.W.nsIn K mainGlobals "_law_unit" = some (some (.ref f19))) (l19 : K.lookup f19 = some ⟨oc19, od19, .func (PySem.W.fnOf "_law_unit" "_law_unit" (defArgs s__law_unit) (defBody s__law_unit) (defScope s__law_unit) .none kV19 dc19 pm19 an19 cd19 ct19), sl19⟩)
    (c19 : PySem.W.codeIn K cd19 "_law_unit" = true) (k19 : PySem.W.keepIn K (.ref f19) = true)
    {f20 : Addr} {od20 an20 : Option Addr} {sl20 : Array (Option Value)} {oc20 kV20 dc20 pm20 cd20 ct20 : Value}
    (a20 : PySem.W.nsIn K mainGlobals "_law_along" = some (some (.ref f20))) (l20 : K.lookup f20 = some ⟨oc20, od20, .func (PySem.W.fnOf "_law_along" "_law_along" (defArgs s__law_along) (defBody s__law_along) (defScope s__law_along) .none kV20 dc20 pm20 an20 cd20 ct20), sl20⟩)
    (c20 : PySem.W.codeIn K cd20 "_law_along" = true) (k20 : PySem.W.keepIn K (.ref f20) = true)
    {f21 : Addr} {od21 an21 : Option Addr} {sl21 : Array (Option Value)} {oc21 kV21 dc21 pm21 cd21 ct21 : Value}
    (a21 : PySem.W.nsIn K mainGlobals "_law_common" = some (some (.ref f21))) (l21 : K.lookup f21 = some ⟨oc21, od21, .func (PySem.W.fnOf "_law_common" "_law_common" (defArgs s__law_common) (defBody s__law_common) (defScope s__law_common) .none kV21 dc21 pm21 an21 cd21 ct21), sl21⟩)
    (c21 : PySem.W.codeIn K cd21 "_law_common" = true) (k21 : PySem.W.keepIn K (.ref f21) = true)
    {f22 : Addr} {od22 an22 : Option Addr} {sl22 : Array (Option Value)} {oc22 kV22 dc22 pm22 cd22 ct22 : Value}
    (a22 : PySem.W.nsIn K mainGlobals "_law_moved" = some (some (.ref f22))) (l22 : K.lookup f22 = some ⟨oc22, od22, .func (PySem.W.fnOf "_law_moved" "_law_moved" (defArgs s__law_moved) (defBody s__law_moved) (defScope s__law_moved) .none kV22 dc22 pm22 an22 cd22 ct22), sl22⟩)
    (c22 : PySem.W.codeIn K cd22 "_law_moved" = true) (k22 : PySem.W.keepIn K (.ref f22) = true)
    {f23 : Addr} {od23 an23 : Option Addr} {sl23 : Array (Option Value)} {oc23 kV23 dc23 pm23 cd23 ct23 : Value}
    (a23 : PySem.W.nsIn K mainGlobals "_law_is_due" = some (some (.ref f23))) (l23 : K.lookup f23 = some ⟨oc23, od23, .func (PySem.W.fnOf "_law_is_due" "_law_is_due" (defArgs s__law_is_due) (defBody s__law_is_due) (defScope s__law_is_due) .none kV23 dc23 pm23 an23 cd23 ct23), sl23⟩)
    (c23 : PySem.W.codeIn K cd23 "_law_is_due" = true) (k23 : PySem.W.keepIn K (.ref f23) = true)
    {f24 : Addr} {od24 an24 : Option Addr} {sl24 : Array (Option Value)} {oc24 kV24 dc24 pm24 cd24 ct24 : Value}
    (a24 : PySem.W.nsIn K mainGlobals "_law_step" = some (some (.ref f24))) (l24 : K.lookup f24 = some ⟨oc24, od24, .func (PySem.W.fnOf "_law_step" "_law_step" (defArgs s__law_step) (defBody s__law_step) (defScope s__law_step) .none kV24 dc24 pm24 an24 cd24 ct24), sl24⟩)
    (c24 : PySem.W.codeIn K cd24 "_law_step" = true) (k24 : PySem.W.keepIn K (.ref f24) = true)
    {f25 : Addr} {od25 an25 : Option Addr} {sl25 : Array (Option Value)} {oc25 kV25 dc25 pm25 cd25 ct25 : Value}
    (a25 : PySem.W.nsIn K mainGlobals "_law_comes_again" = some (some (.ref f25))) (l25 : K.lookup f25 = some ⟨oc25, od25, .func (PySem.W.fnOf "_law_comes_again" "_law_comes_again" (defArgs s__law_comes_again) (defBody s__law_comes_again) (defScope s__law_comes_again) .none kV25 dc25 pm25 an25 cd25 ct25), sl25⟩)
    (c25 : PySem.W.codeIn K cd25 "_law_comes_again" = true) (k25 : PySem.W.keepIn K (.ref f25) = true)
    {f26 : Addr} {od26 an26 : Option Addr} {sl26 : Array (Option Value)} {oc26 kV26 dc26 pm26 cd26 ct26 : Value}
    (a26 : PySem.W.nsIn K mainGlobals "_law_is_of_parts" = some (some (.ref f26))) (l26 : K.lookup f26 = some ⟨oc26, od26, .func (PySem.W.fnOf "_law_is_of_parts" "_law_is_of_parts" (defArgs s__law_is_of_parts) (defBody s__law_is_of_parts) (defScope s__law_is_of_parts) .none kV26 dc26 pm26 an26 cd26 ct26), sl26⟩)
    (c26 : PySem.W.codeIn K cd26 "_law_is_of_parts" = true) (k26 : PySem.W.keepIn K (.ref f26) = true)
    {f27 : Addr} {od27 an27 : Option Addr} {sl27 : Array (Option Value)} {oc27 kV27 dc27 pm27 cd27 ct27 : Value}
    (a27 : PySem.W.nsIn K mainGlobals "law" = some (some (.ref f27))) (l27 : K.lookup f27 = some ⟨oc27, od27, .func (PySem.W.fnOf "law" "law" (defArgs s_law) (defBody s_law) (defScope s_law) .none kV27 dc27 pm27 an27 cd27 ct27), sl27⟩)
    (c27 : PySem.W.codeIn K cd27 "law" = true) (k27 : PySem.W.keepIn K (.ref f27) = true)
    (z0 : PySem.W.nsIn K mainGlobals "abs" = some none)
    (z1 : PySem.W.nsIn K mainGlobals "all" = some none)
    (z2 : PySem.W.nsIn K mainGlobals "bool" = some none)
    (z3 : PySem.W.nsIn K mainGlobals "int" = some none)
    (z4 : PySem.W.nsIn K mainGlobals "isinstance" = some none)
    (z5 : PySem.W.nsIn K mainGlobals "len" = some none)
    (z6 : PySem.W.nsIn K mainGlobals "list" = some none)
    (z7 : PySem.W.nsIn K mainGlobals "max" = some none)
    (z8 : PySem.W.nsIn K mainGlobals "range" = some none)
    (z9 : PySem.W.nsIn K mainGlobals "repr" = some none)
    (z10 : PySem.W.nsIn K mainGlobals "sorted" = some none)
    (z11 : PySem.W.nsIn K mainGlobals "sum" = some none)
    (z12 : PySem.W.nsIn K mainGlobals "tuple" = some none)
    (z13 : PySem.W.nsIn K mainGlobals "zip" = some none)
    (b0 : PySem.W.nsIn K mainGlobals "gcd" = some (some (.builtin "math.gcd")))
    (v0 : PySem.W.nsIn K mainGlobals "PRIMES" = some (some (.ref (He.ga K "PRIMES")))) (w0 : He.tupB K "PRIMES" (([2, 3, 5, 7, 11, 13, 17, 19, 23, 29] : List Int).map He.Dv.int) = true)
    {t1 : Tok} (v1 : PySem.W.nsIn K mainGlobals "MOST_BREADTH" = some (some (.int 3 t1)))
    {t2 : Tok} (v2 : PySem.W.nsIn K mainGlobals "MOST_PRIMES_MULTIPLIED" = some (some (.int 1000 t2)))
    : ∃ fd : FuncData, (∀ (s : Shared) (u : Value), BindsTo s fd ⟨[u], []⟩ [("_law_script", u)]) ∧ ∀ base : Heap, K.In base → base.Ns mainGlobals mg → GFn l.prog w K mg base 8 fa fd ["_law_script"] (sp_law K) := by
  obtain ⟨T⟩ := all_mk X G a0 l0 c0 k0 a1 l1 c1 k1 a2 l2 c2 k2 a3 l3 c3 k3 a4 l4 c4 k4 a5 l5 c5 k5 a6 l6 c6 k6 a7 l7 c7 k7 a8 l8 c8 k8 a9 l9 c9 k9 a10 l10 c10 k10 a11 l11 c11 k11 a12 l12 c12 k12 a13 l13 c13 k13 a14 l14 c14 k14 a15 l15 c15 k15 a16 l16 c16 k16 a17 l17 c17 k17 a18 l18 c18 k18 a19 l19 c19 k19 a20 l20 c20 k20 a21 l21 c21 k21 a22 l22 c22 k22 a23 l23 c23 k23 a24 l24 c24 k24 a25 l25 c25 k25 a26 l26 c26 k26 a27 l27 c27 k27 z0 z1 z2 z3 z4 z5 z6 z7 z8 z9 z10 z11 z12 z13 b0 v0 w0 v1 v2
  obtain rfl := law_at T hfa
  exact ⟨_, law_binds T, fun base _ _ => ok_law T⟩
theorem law_want (K : PySem.W.Frag) (H : Hp) (a : Addr) (ns : List Int) (hl : ns.length ≤ 63) (hs : SqL K H a (ns.map V.int)) : sp_law K [.ref a] H (fun v _ => v = .bl true) E0 := ⟨a, ns, rfl, hs, hl, fun _ => rfl⟩
end KL
open PySem PySem.W PyProof.Rows
set_option maxHeartbeats 0 in
theorem PySem.Challenge.cw_slantpanes_k03_far_cells_on_stripes_holds : PySem.Challenge.rw_slantpanes_k03_far_cells_on_stripes.Holds := by
  w_on; o_law; k_head; (case hw => w_witness2)
  k_fill
  refine Kw.walk_G (l := PySem.Challenge.rw_slantpanes_k03_far_cells_on_stripes) (n := 63) (k := 8) (x := "_law_script") (sp := KL.sp_law) rfl (by decide) rfl ⟨rfl, by decide, by decide⟩ (fun w h Y => PySem.W.kIn_of Y) ?F KL.law_want
  case F =>
    intro w mg fa h KX G hmg
    refine' KL.all_end KX G hmg ?a0 ?l0 ?c0 ?k0 ?a1 ?l1 ?c1 ?k1 ?a2 ?l2 ?c2 ?k2 ?a3 ?l3 ?c3 ?k3 ?a4 ?l4 ?c4 ?k4 ?a5 ?l5 ?c5 ?k5 ?a6 ?l6 ?c6 ?k6 ?a7 ?l7 ?c7 ?k7 ?a8 ?l8 ?c8 ?k8 ?a9 ?l9 ?c9 ?k9 ?a10 ?l10 ?c10 ?k10 ?a11 ?l11 ?c11 ?k11 ?a12 ?l12 ?c12 ?k12 ?a13 ?l13 ?c13 ?k13 ?a14 ?l14 ?c14 ?k14 ?a15 ?l15 ?c15 ?k15 ?a16 ?l16 ?c16 ?k16 ?a17 ?l17 ?c17 ?k17 ?a18 ?l18 ?c18 ?k18 ?a19 ?l19 ?c19 ?k19 ?a20 ?l20 ?c20 ?k20 ?a21 ?l21 ?c21 ?k21 ?a22 ?l22 ?c22 ?k22 ?a23 ?l23 ?c23 ?k23 ?a24 ?l24 ?c24 ?k24 ?a25 ?l25 ?c25 ?k25 ?a26 ?l26 ?c26 ?k26 ?a27 ?l27 ?c27 ?k27 ?z0 ?z1 ?z2 ?z3 ?z4 ?z5 ?z6 ?z7 ?z8 ?z9 ?z10 ?z11 ?z12 ?z13 ?b0 ?v0 ?w0 ?v1 ?v2
    (case a0 => k_is)
    (case l0 => k_is)
    (case c0 => k_is)
    (case k0 => k_is)
    (case a1 => k_is)
    (case l1 => k_is)
    (case c1 => k_is)
    (case k1 => k_is)
    (case a2 => k_is)
    (case l2 => k_is)
    (case c2 => k_is)
    (case k2 => k_is)
    (case a3 => k_is)
    (case l3 => k_is)
    (case c3 => k_is)
    (case k3 => k_is)
    (case a4 => k_is)
    (case l4 => k_is)
    (case c4 => k_is)
    (case k4 => k_is)
    (case a5 => k_is)
    (case l5 => k_is)
    (case c5 => k_is)
    (case k5 => k_is)
    (case a6 => k_is)
    (case l6 => k_is)
    (case c6 => k_is)
    (case k6 => k_is)
    (case a7 => k_is)
    (case l7 => k_is)
    (case c7 => k_is)
    (case k7 => k_is)
    (case a8 => k_is)
    (case l8 => k_is)
    (case c8 => k_is)
    (case k8 => k_is)
    (case a9 => k_is)
    (case l9 => k_is)
    (case c9 => k_is)
    (case k9 => k_is)
    (case a10 => k_is)
    (case l10 => k_is)
    (case c10 => k_is)
    (case k10 => k_is)
    (case a11 => k_is)
    (case l11 => k_is)
    (case c11 => k_is)
    (case k11 => k_is)
    (case a12 => k_is)
    (case l12 => k_is)
    (case c12 => k_is)
    (case k12 => k_is)
    (case a13 => k_is)
    (case l13 => k_is)
    (case c13 => k_is)
    (case k13 => k_is)
    (case a14 => k_is)
    (case l14 => k_is)
    (case c14 => k_is)
    (case k14 => k_is)
    (case a15 => k_is)
    (case l15 => k_is)
    (case c15 => k_is)
    (case k15 => k_is)
    (case a16 => k_is)
    (case l16 => k_is)
    (case c16 => k_is)
    (case k16 => k_is)
    (case a17 => k_is)
    (case l17 => k_is)
    (case c17 => k_is)
    (case k17 => k_is)
    (case a18 => k_is)
    (case l18 => k_is)
    (case c18 => k_is)
    (case k18 => k_is)
    (case a19 => k_is)
    (case l19 => k_is)
    (case c19 => k_is)
    (case k19 => k_is)
    (case a20 => k_is)
    (case l20 => k_is)
    (case c20 => k_is)
    (case k20 => k_is)
    (case a21 => k_is)
    (case l21 => k_is)
    (case c21 => k_is)
    (case k21 => k_is)
    (case a22 => k_is)
    (case l22 => k_is)
    (case c22 => k_is)
    (case k22 => k_is)
    (case a23 => k_is)
    (case l23 => k_is)
    (case c23 => k_is)
    (case k23 => k_is)
    (case a24 => k_is)
    (case l24 => k_is)
    (case c24 => k_is)
    (case k24 => k_is)
    (case a25 => k_is)
    (case l25 => k_is)
    (case c25 => k_is)
    (case k25 => k_is)
    (case a26 => k_is)
    (case l26 => k_is)
    (case c26 => k_is)
    (case k26 => k_is)
    (case a27 => k_is)
    (case l27 => k_is)
    (case c27 => k_is)
    (case k27 => k_is)
    (case z0 => k_is)
    (case z1 => k_is)
    (case z2 => k_is)
    (case z3 => k_is)
    (case z4 => k_is)
    (case z5 => k_is)
    (case z6 => k_is)
    (case z7 => k_is)
    (case z8 => k_is)
    (case z9 => k_is)
    (case z10 => k_is)
    (case z11 => k_is)
    (case z12 => k_is)
    (case z13 => k_is)
    (case b0 => k_is)
    (case v0 => k_is)
    (case w0 => kernel_rfl)
    (case v1 => k_is)
    (case v2 => k_is)
