import PyProof.Rows.All
import Wide.All
import OpenK.AllK
import Wide.FinOn
import KE.KStateDown
import Lean
import HandS.ForMost
import HandS.WordsExc
import HandS.Defaults
import HandS.Head0
import HandS.Head1
import HandS.Head2
import HandS.HeadEnd
import HandS.HeadHook1
import HandS.HeadHook2
import KE.DatumOrd
import PyProof.ListStr
import PyProof.StrOps2
import PyProof.ReprRoads
import HandS.Style
import HandS.Strs
import HandS.Star
import HandS.IsInst
import PyProof.Rows.SetFrom
import HandS.SetKeys
import PyProof.ReprBulk
import HandS.Walk
import HandS.Wide
import HandS.Base
import HandS.Call
import HandS.Ends
import HandS.More
import HandS.Words
import PySem.Challenge.RW_streamwrights_k12_words_prefixes_delays
set_option Elab.async false
set_option linter.all false
set_option maxRecDepth 100000
set_option maxHeartbeats 0
namespace Sw
/-- how far two lists are alike -/
def lcp : List Nat → List Nat → Nat
  | a :: as, b :: bs => if a = b then lcp as bs + 1 else 0
  | _, _ => 0
theorem lcp_le_left : ∀ x y, lcp x y ≤ x.length
  | [], _ => by simp [lcp]
  | _ :: _, [] => by simp [lcp]
  | a :: as, b :: bs => by
    have := lcp_le_left as bs
    unfold lcp; split
    · simp only [List.length_cons]; omega
    · exact Nat.zero_le _
theorem lcp_le_right : ∀ x y, lcp x y ≤ y.length
  | [], _ => by simp [lcp]
  | _ :: _, [] => by simp [lcp]
  | a :: as, b :: bs => by
    have := lcp_le_right as bs
    unfold lcp; split
    · simp only [List.length_cons]; omega
    · exact Nat.zero_le _
theorem lcp_take : ∀ x y : List Nat, x.take (lcp x y) = y.take (lcp x y)
  | [], y => by simp [lcp]
  | _ :: _, [] => by simp [lcp]
  | a :: as, b :: bs => by
    have := lcp_take as bs
    unfold lcp; split
    · rename_i h; subst h; simp only [List.take_succ_cons, this]
    · simp
/-- a step of the loops: below the end the next signs are alike -/
theorem lcp_step : ∀ (x y : List Nat) (n : Nat), n < x.length → n < y.length → n ≤ lcp x y → (n < lcp x y ↔ x[n]? = y[n]?)
  | [], _, n, h, _, _ => by simp at h
  | _ :: _, [], n, _, h, _ => by simp at h
  | a :: as, b :: bs, 0, _, _, _ => by
    unfold lcp
    split
    · rename_i h; subst h; simp
    · rename_i h; simp [h]
  | a :: as, b :: bs, n + 1, h1, h2, h3 => by
    unfold lcp at h3 ⊢
    split at h3
    · rename_i h
      rw [if_pos h]
      have := lcp_step as bs n (by simpa using h1) (by simpa using h2) (by omega)
      simp only [List.getElem?_cons_succ]
      rw [← this]
      omega
    · omega
theorem lcp_max : ∀ (x y p : List Nat), p <+: x → p <+: y → p.length ≤ lcp x y
  | x, y, [], _, _ => Nat.zero_le _
  | [], _, c :: p, h, _ => by simp at h
  | _ :: _, [], c :: p, _, h => by simp at h
  | a :: as, b :: bs, c :: p, h1, h2 => by
    rw [List.cons_prefix_cons] at h1 h2
    obtain ⟨e1, h1⟩ := h1
    obtain ⟨e2, h2⟩ := h2
    subst e1; subst e2
    unfold lcp
    rw [if_pos rfl]
    have := lcp_max as bs p h1 h2
    simp only [List.length_cons]; omega
theorem not_lt_cons {a b : Nat} {as bs : List Nat} (h : ¬ (a :: as < b :: bs)) : b < a ∨ (a = b ∧ ¬ as < bs) := by
  rw [List.cons_lt_cons_iff] at h
  by_cases e : a = b
  · exact .inr ⟨e, fun q => h (.inr ⟨e, q⟩)⟩
  · by_cases l : a < b
    · exact (h (.inl l)).elim
    · exact .inl (by omega)
/-- what lies between two lists begins as both do -/
theorem between : ∀ (lo hi w : List Nat), ¬ w < lo → ¬ hi < w → lo.take (lcp lo hi) <+: w
  | [], hi, w, _, _ => by simp
  | a :: as, [], w, _, _ => by simp [lcp]
  | a :: as, b :: bs, w, h1, h2 => by
    unfold lcp
    split
    · rename_i e
      subst e
      cases w with
      | nil => exact (h1 (by exact List.nil_lt_cons ..)).elim
      | cons c cs =>
        rcases not_lt_cons h1 with l | ⟨e, l⟩
        · rcases not_lt_cons h2 with l2 | ⟨e2, _⟩
          · omega
          · omega
        · subst e
          rcases not_lt_cons h2 with l2 | ⟨_, l2⟩
          · omega
          · rw [List.take_succ_cons, List.cons_prefix_cons]
            exact ⟨rfl, between as bs cs l l2⟩
    · simp
/-- the longest list with which all of some begin -/
structure IsPre (ws : List (List Nat)) (p : List Nat) : Prop where
  pre : ∀ w ∈ ws, p <+: w
  top : ∀ q, (∀ w ∈ ws, q <+: w) → q.length ≤ p.length
theorem IsPre.one {ws : List (List Nat)} {p q : List Nat} (hp : IsPre ws p) (hq : IsPre ws q) (hn : ws ≠ []) : p = q := by
  cases ws with
  | nil => exact absurd rfl hn
  | cons w ws =>
    have a := hp.pre w (List.mem_cons_self ..)
    have b := hq.pre w (List.mem_cons_self ..)
    have l1 := hp.top q hq.pre
    have l2 := hq.top p hp.pre
    exact (List.prefix_of_prefix_length_le a b l2).eq_of_length (by omega)
theorem IsPre.congr {ws us : List (List Nat)} {p : List Nat} (h : IsPre ws p) (e : ∀ w, w ∈ ws ↔ w ∈ us) : IsPre us p :=
  ⟨fun w hw => h.pre w ((e w).mpr hw), fun q hq => h.top q fun w hw => hq w ((e w).mp hw)⟩
/-- by the least and the greatest one -/
theorem isPre_ends {ws : List (List Nat)} {lo hi : List Nat} (h1 : lo ∈ ws) (h2 : hi ∈ ws) (h3 : ∀ w ∈ ws, ¬ w < lo) (h4 : ∀ w ∈ ws, ¬ hi < w) : IsPre ws (lo.take (lcp lo hi)) :=
  ⟨fun w hw => between lo hi w (h3 w hw) (h4 w hw), fun q hq => by
    rw [List.length_take, Nat.min_eq_left (lcp_le_left _ _)]
    exact lcp_max _ _ _ (hq _ h1) (hq _ h2)⟩
theorem isPre_two (x y : List Nat) : IsPre [x, y] (x.take (lcp x y)) :=
  ⟨fun w hw => by
    rcases List.mem_cons.mp hw with e | hw
    · rw [e]; exact List.take_prefix _ _
    · rw [List.mem_singleton.mp hw, lcp_take]; exact List.take_prefix _ _, fun q hq => by
    rw [List.length_take, Nat.min_eq_left (lcp_le_left _ _)]
    exact lcp_max _ _ _ (hq x (by simp)) (hq y (by simp))⟩
/-- the least one is ahead of all else: the greatest one is as long as that both are alike -/
theorem long_hi : ∀ (lo hi : List Nat) (n : Nat), ¬ hi < lo → n < lo.length → n ≤ lcp lo hi → n < hi.length
  | [], _, _, _, h, _ => by simp at h
  | a :: as, [], _, h, _, _ => (h (List.nil_lt_cons ..)).elim
  | a :: as, b :: bs, 0, _, _, _ => by simp
  | a :: as, b :: bs, n + 1, h, h1, h2 => by
    unfold lcp at h2
    split at h2
    · rename_i e
      subst e
      rcases not_lt_cons h with l | ⟨_, l⟩
      · omega
      · have := long_hi as bs n l (by simpa using h1) (by omega)
        simpa using this
    · omega
/-- the search by sizes: it ends where the next size is too long, or parts them -/
theorem isPre_search {ws : List (List Nat)} {w : List Nat} {n : Nat} (hw : w ∈ ws) (h1 : ∀ u ∈ ws, n ≤ u.length) (h2 : ∀ u ∈ ws, u.take n = w.take n)
    (h3 : (∀ u ∈ ws, n < u.length) → ∃ u ∈ ws, u.take (n + 1) ≠ w.take (n + 1)) : IsPre ws (w.take n) := by
  refine ⟨fun u hu => by rw [← h2 u hu]; exact List.take_prefix _ _, fun q hq => ?_⟩
  rw [List.length_take, Nat.min_eq_left (h1 w hw)]
  by_cases hlt : n < q.length
  · exfalso
    have len : ∀ u ∈ ws, n < u.length := fun u hu => Nat.lt_of_lt_of_le hlt (hq u hu).length_le
    obtain ⟨u, hu, ne⟩ := h3 len
    apply ne
    have e : ∀ v ∈ ws, v.take (n + 1) = q.take (n + 1) := fun v hv => by
      obtain ⟨t, rfl⟩ := hq v hv
      rw [List.take_append_of_le_length (by omega)]
    rw [e u hu, e w hw]
  · omega
end Sw
namespace Sw
open PySem PySem.Spec PyProof.Rows L2
/-! ### defs that are called where no repr is under way -/
structure FnG (P : Program) (w : World) (K : PySem.W.Frag) (mg : Str → Option Value) (base : Heap) (k : Nat) (f : Addr) (fd : FuncData) (ps : List Str) (sp : Sp) : Prop where
  len : ∀ vs H Q E, sp vs H Q E → vs.length = ps.length
  run : ∀ (A : Around) (out : List Env) (s : Shared) (H : Hp) (args : Args) (us : List Value) (vs : List V) (Q : VK) (E : XK), A.guards = some [] → Room k A → Env0 P w K mg base A out s H →
    BindsTo s fd args (ps.zip us) → Vals vs us → sp vs H Q E → codeAny (model P w) A (.call (.ref f) args) (CR CX0 out P w H s Q E) s
section
variable {P : Program} {w : World} {K : PySem.W.Frag} {mg : Str → Option Value} {base : Heap} {k : Nat} {f : Addr} {fd : FuncData} {ps : List Str} {sp : Sp}
theorem fng_ok (F : FnOk P w K mg base CX0 k f fd ps sp) : FnG P w K mg base k f fd ps sp :=
  ⟨F.len, fun A out s H args us vs Q E _ hr he hb hv h => F.run A out s H args us vs Q E hr he hb hv h⟩
/-- a def's body, told that no repr is under way -/
theorem fng_of {x q : Str} {pa : Arguments} {bo : List Stmt} {sc : Scope} {N : List Str} (F : FunD K x q pa bo sc [] [] f fd) (S : FnScope N ps sc) (hl : ∀ vs H Q E, sp vs H Q E → vs.length = ps.length)
    (hbo : ∀ (cv : Value) (A : Around) (out : List Env) (s : Shared) (H : Hp) (vs : List V) (Q : VK) (E : XK), A.guards = some [] → Room k (A.deeper (envOfC q sc s.heap.objs.size f cv)) → sp vs H Q E →
      ∃ t, PSs (cxOf CX0 P w K mg base N q sc f cv A out s H E) bo t ∧ t { nx := fun _ H' => Q .non H', rt := Q } (start N vs) H) : FnG P w K mg base (k + 1) f fd ps sp := by
  obtain ⟨oc, od, dV, kV, doc, pm, an, cv, ct, osl, rfl, lk, hco, _, _⟩ := F.ex
  refine ⟨hl, fun A out s H args us vs Q E hG hr he hb rv hs => ?_⟩
  have vl := hl _ _ _ _ hs
  have kin : K.In s.heap := he.mod.kin.keeps fun b o z => (he.bs b o z).1
  have nol : s.heap.NoLimit := he.mod.nolimit.keeps fun b o z => (he.bs b o z).1
  have knd : ∀ y ∈ ps.zip us, sc.names.lookup y.1 = some .local ∨ (sc.names.lookup y.1 = some .cell ∧ ((cellsFrom (s.heap.objs.size + 1) sc.names []).lookup y.1).isSome = true) := by
    intro y hy
    rcases S.par y.1 (List.of_mem_zip (show (y.1, y.2) ∈ ps.zip us from hy)).1 with z | z
    · exact .inl z
    · exact .inr ⟨z, PySem.W.cellsFrom_some _ _ _ (.inl z)⟩
  refine codeAny_call_function hr.depth (kin _ _ lk) rfl S.co S.gen rfl (PySem.W.codeRec_of kin hco) (hb _ _ _ _ ?_)
  refine wpAny_newFunctionEnv_cells S.kind knd fun env eq s1 z => ?_
  subst eq
  refine ⟨nol.keeps z.toInCall.keep, codeAny_func ?_⟩
  obtain ⟨t, ht, hq⟩ := hbo cv A out s H vs Q E hG (hr.deeper _) hs
  have J : Inv (cxOf CX0 P w K mg base N q sc f cv A out s H E) [] (start N vs) H s1 := inv_start S hr.hd he vl rv z
  refine wpAny_mono (ht.run [] s1 (start N vs) H _ J hq) (fun fl s2 hz => ?_) fun _ _ hz => hz
  have fin : ∀ {τ : L2.St} {H' : Hp} {v : V} {u : Value}, Inv (cxOf CX0 P w K mg base N q sc f cv A out s H E) [] τ H' s2 → RelV v u → Q v H' → CE out P w H s Q u s2 := by
    intro τ H' v u I r z
    exact ⟨v, H', I.os, I.bare, I.base, I.hok, r, z⟩
  cases fl with
  | ret u => obtain ⟨v, τ, H', I, r, z⟩ := hz; exact fin I r z
  | next => obtain ⟨τ, H', I, z⟩ := hz; exact fin (v := V.non) (u := Value.none) I rfl z
  | brk => obtain ⟨_, _, _, z⟩ := hz; exact z.elim
  | cont => obtain ⟨_, _, _, z⟩ := hz; exact z.elim
end
section
variable {X : Cx} {k : Nat} {f : Addr} {fd : FuncData} {ps : List Str} {sp : Sp} {x : Str} {p pos : Pos} {e : Expr} {es : List Expr} {ta : TA}
/-- a call of such a def -/
theorem pe_callG (hG : X.A.guards = some []) (F : FnG X.prog X.w X.K X.mg X.base k f fd ps sp) (hr : Room k X.A) (hg : Gl X x) (hm : X.mg x = some (.ref f)) (hk : PySem.W.keepIn X.K (.ref f) = true) (hb : Binds X.K fd ps [])
    (ha : PA X (e :: es) ta) (hd : (x == ("__debug__" : Str)) = false := by decide) (he : starEach (e :: es) X.env = (false, eval e X.env) :: starEach es X.env := by rfl)
    (hp : (backTo pos (starEach es X.env)).any (·.1) = false := by rfl) : PE X (.Call (.Name x p) (e :: es) [] pos) (fun σ H Q => ta σ H fun vs H1 => sp vs H1 Q E0) := by
  refine ⟨fun pins s σ H Q I h => wpAny_Call_Name_kw (ld_glob I hg hm ?_ hd)⟩
  refine PySem.W.callWith_K (h₀ := X.base) I.ok.mod.kin hk (thn (ha.run pos pins s σ H _ I h) fun us s1 ⟨vs, H1, J, r, q⟩ => ⟨J.kIn, ?_⟩) he hp
  have hl : (us ++ []).length = ps.length := by rw [List.append_nil, ← r.length]; exact F.len _ _ _ _ q
  have hbt : BindsTo s1 fd ⟨us, []⟩ (ps.zip us) := by
    have z := hb s1 us J.kIn hl
    rw [List.append_nil] at z
    exact z
  refine wpAny_call (codeAny_mono (F.run X.A X.stack s1 H1 ⟨us, []⟩ us vs Q E0 hG hr J.env0 hbt r q) fun r' s2 hz => ?_)
  cases r' with
  | error er => exact False.elim hz
  | ok fl =>
    cases fl with
    | ret u => exact J.after hz
    | next => exact False.elim hz
    | brk => exact False.elim hz
    | cont => exact False.elim hz
end
/-! ### the law's own call -/
theorem lawG_call {P : Program} {w : World} {K : PySem.W.Frag} {mg mb : Str → Option Value} {k : Nat} {fa a : Addr} {fd : FuncData} {x : Str} {sp : Sp} {s₁ : Shared} {vs : List Value} {ns : List Int}
    (kin : K.In s₁.heap) (hns : s₁.heap.Ns mainGlobals mg) (hb : s₁.heap.Ns builtinsNs mb) (hbb : ∀ x : Str, x ≠ "__name__" → mb x = bootBuiltins x) (nol : s₁.heap.NoLimit) (hg : s₁.gens = #[])
    (ha : s₁.heap.get? a = some { cls := .type "list", data := .seq vs.toArray }) (hi : IntsAre vs ns) (hl : ns.length ≤ sizeLine) (hr : Room k callerA)
    (F : ∀ base : Heap, K.In base → base.Ns mainGlobals mg → FnG P w K mg base k fa fd [x] sp) (hbd : ∀ (s : Shared) (u : Value), BindsTo s fd ⟨[u], []⟩ [(x, u)])
    (hsp : ∀ H : Hp, Only H → SqL K H a (ns.map V.int) → sp [.ref a] H (fun v _ => v = .bl true) fun _ _ _ => False) :
    codeAny (model P w) callerA (.call (.ref fa) ⟨[.ref a], []⟩) (fun r s' => r = .ok (.ret (.bool true)) ∧ OldK s₁.heap s'.heap ∧ s'.os = s₁.os ∧ AllBare s'.gens) s₁ := by
  have rv := vals_ints hi
  have lv := hi.length
  have core : ∀ H : Hp, Only H → SqL K H a (ns.map V.int) → HOk P w H s₁.heap → (∀ b, H b ≠ none → b = a) → (H a ≠ none → K.lookup a = none) →
      codeAny (model P w) callerA (.call (.ref fa) ⟨[.ref a], []⟩) (fun r s' => r = .ok (.ret (.bool true)) ∧ OldK s₁.heap s'.heap ∧ s'.os = s₁.os ∧ AllBare s'.gens) s₁ := by
    intro H hO hS hok hA hK
    have one : ∀ {b : Addr} {u : HO}, H b = some u → b = a := fun {b u} z => hA b (by rw [z]; exact fun n => by cases n)
    have free : ∀ {b : Addr} {o : Obj} {es : Array DictEntry} {ep : Nat}, s₁.heap.get? b = some o → o.data = .dict es ep → H b = none := by
      intro b o es ep z d
      cases q : H b with
      | none => rfl
      | some u =>
        have e := one q
        subst e
        rw [ha] at z
        cases z
        have d2 : Data.seq vs.toArray _ = Data.dict es ep := d
        cases d2
    have nsB : ∀ {b : Addr} {m : Str → Option Value}, s₁.heap.Ns b m → (hidT s₁.heap H).Ns b m := fun {b m} ⟨o, es, ep, z, d, r⟩ => ⟨o, es, ep, hidT_get z (free z d), d, r⟩
    have kB : K.In (hidT s₁.heap H) := fun b o z => by
      refine hidT_get (kin b o z) ?_
      cases q : H b with
      | none => rfl
      | some u =>
        have e := one q
        subst e
        rw [hK (by rw [q]; exact fun n => by cases n)] at z
        cases z
    have mB : Mod K mg (hidT s₁.heap H) := ⟨kB, nsB hns, ⟨mb, nsB hb, hbb⟩, let ⟨mc, z1, z2⟩ := nol; ⟨mc, nsB z1, z2⟩⟩
    have e0 : Env0 P w K mg (hidT s₁.heap H) callerA [] s₁ H :=
      ⟨rfl, mB, fun b o z => of_hidT z, Nat.le_of_eq (hidT_size _ _), trivial, fun b z => absurd (show b ∈ ([] : List Addr) from z) (by simp), hok, .of_eq hg⟩
    refine codeAny_mono ((F _ kB (nsB hns)).run callerA [] s₁ H ⟨[.ref a], []⟩ [.ref a] [.ref a] _ _ rfl hr e0 (hbd s₁ (.ref a)) (.cons rfl .nil) (hsp H hO hS)) fun r s' z => ?_
    cases r with
    | error e => exact False.elim z
    | ok fl =>
      cases fl with
      | next => exact False.elim z
      | brk => exact False.elim z
      | cont => exact False.elim z
      | ret u =>
        obtain ⟨v, H', os, bare, un, hok', r', q⟩ := z
        have q2 : v = .bl true := q
        subst q2
        obtain rfl : u = Value.bool true := r'
        refine ⟨rfl, OldK.of_keep fun b o z => ?_, os, bare⟩
        cases q : H b with
        | none => exact un.keep b o z q (fun n => absurd (show b ∈ ([] : List Addr) from n) (by simp)) (by simp)
        | some u =>
          rcases hO b with n | ⟨ob, xs, n⟩
          · rw [q] at n; cases n
          · obtain ⟨e1, _⟩ := hok b _ n
            obtain ⟨e2, _⟩ := hok' b _ (un.frzs b ob _ n)
            rw [z] at e1
            cases e1
            exact e2
  cases hk : K.lookup a with
  | some o =>
    have z := kin a o hk
    rw [ha] at z
    cases z
    exact core (fun _ => none) (fun _ => .inl rfl) (.inr ⟨_, vs.toArray, _, hk, rfl, rfl, rfl, by rw [List.size_toArray, lv]; exact hl, by simpa using rv⟩) (fun b u n => by have m : (none : Option HO) = some u := n; cases m)
      (fun b n => absurd rfl n) fun n => absurd rfl n
  | none =>
    refine core (fun b => if b = a then some (.frz { cls := .type "list", data := .seq vs.toArray } (.lst (ns.map V.int))) else none) (fun b => ?_) (.inl (.inr ⟨{ cls := .type "list", data := .seq vs.toArray }, if_pos rfl⟩)) (fun b u n => ?_) (fun b n => ?_) fun _ => hk
    · by_cases e : b = a
      · exact .inr ⟨_, _, if_pos e⟩
      · exact .inl (if_neg e)
    · by_cases e : b = a
      · have m := (if_pos e).symm.trans n
        cases m
        subst e
        exact ⟨ha, by rw [List.length_map]; exact hl, vs, _, rv, ha⟩
      · have m := (if_neg e).symm.trans n
        cases m
    · by_cases e : b = a
      · exact e
      · exact absurd (if_neg e) n
theorem walkG {l : PySem.W.OpenLaw} {n k : Nat} {q : Program} {loose : List Str} {XP : (Str → Option Value) → Heap → Prop} {YP : World → Heap → Prop} {d : DefRec} {x : Str}
    (hn : l.most = some n) (hz : n ≤ sizeLine) (hd : d.params.defaults = []) (hr : Room k callerA)
    (F : ∀ (w : World) (mg : Str → Option Value) (fa : Addr) (h : Heap), YP w h → h.Ns mainGlobals mg → mg d.name = some (.ref fa) → ∃ (K : PySem.W.Frag) (fd : FuncData) (sp : Sp), K.In h ∧ (∀ (s : Shared) (u : Value), BindsTo s fd ⟨[u], []⟩ [(x, u)]) ∧
      (∀ (H : Hp) (a : Addr) (ns : List Int), ns.length ≤ n → Only H → SqL K H a (ns.map V.int) → sp [.ref a] H (fun v _ => v = .bl true) fun _ _ _ => False) ∧ ∀ base : Heap, K.In base → base.Ns mainGlobals mg → FnG l.prog w K mg base k fa fd [x] sp) :
    PySem.W.WalkO q loose XP YP l.row.toRowW d [] (fun f vs => PySem.call f vs) := by
  refine Att.attach_call hn hd fun w s₀ s₁ mg mb fa o pm cd doc a vs ns G Y _ _ _ hm hob hin hle hge => ?_
  obtain ⟨K, fd, sp, kin, hb, hs, hF⟩ := F w mg fa _ Y G.T.g hm
  exact lawG_call kin G.T.g G.T.b G.T.builtins G.T.nolimit hge hob hin (Nat.le_trans hle hz) hr hF hb fun H hO hS => hs H a ns hle hO hS
end Sw
namespace Sw
open PySem PySem.Spec PyProof.Rows L2
/-! ### repr -/
mutual
theorem nodict {K : PySem.W.Frag} {H : Hp} : ∀ (d : PyData) (v : V), Dp K H v d → d.hasDict = false
  | .none, _, _ => by simp only [PyData.hasDict]
  | .bool _, _, _ => by simp only [PyData.hasDict]
  | .int _, _, _ => by simp only [PyData.hasDict]
  | .str _, _, _ => by simp only [PyData.hasDict]
  | .list ds, _, h => by
    cases h with
    | lst _ ha => simpa only [PyData.hasDict] using nodictAll ds _ ha
  | .tuple ds, _, h => by
    cases h with
    | tup _ ha => simpa only [PyData.hasDict] using nodictAll ds _ ha
  | .dict _, _, h => by cases h
theorem nodictAll {K : PySem.W.Frag} {H : Hp} : ∀ (ds : List PyData) (vs : List V), DpAll K H vs ds → PyData.hasDictAll ds = false
  | [], _, _ => by simp only [PyData.hasDictAll]
  | d :: ds, _, h => by
    cases h with
    | cons h1 h2 =>
      simp only [PyData.hasDictAll, nodict d _ h1, nodictAll ds _ h2, Bool.or_self]
end
section
variable {X : Cx}
theorem call_reprD (hG : X.A.guards = some []) (hu : X.A.units + 64 < cLine) : CallR X (.builtin "repr") (fun xs H Q => ∃ x d, xs = [x] ∧ Dp X.K H x d ∧ d.showable = true ∧ d.depth ≤ 60 ∧ d.shown.length ≤ sizeLine ∧ Q (.str d.shown) H) := by
  intro pins s σ H xs us Q I r h
  obtain ⟨x, d, rfl, hd, hs, hdp, hz, q⟩ := h
  cases r with
  | cons r1 rt =>
    cases rt
    have nd := nodict d x hd
    cases d with
    | none => cases hd; cases r1; exact P.repr_of_none ⟨.str _, H, I.tok _, ⟨_, rfl⟩, q⟩
    | bool b => cases hd; cases r1; exact P.repr_of_bool ⟨.str _, H, I.tok _, ⟨_, rfl⟩, q⟩
    | int i =>
      cases hd
      obtain ⟨t, rfl⟩ := r1
      exact P.repr_of_int (by simpa [PyData.showable] using hs) ⟨.str _, H, I.tok _, ⟨_, rfl⟩, q⟩
    | str z =>
      cases hd
      obtain ⟨t, rfl⟩ := r1
      exact P.repr_of_str ⟨.str _, H, I.tok _, ⟨_, rfl⟩, q⟩ hz
    | dict _ => cases hd
    | list ds =>
      have hd0 := hd
      cases hd0 with
      | lst h1 h2 =>
        obtain ⟨as, rd⟩ := Dp.reads I _ _ _ hd r1
        cases r1
        exact repr_of_reads' rd hs (fun z => by rw [nd] at z; cases z) hG (by omega) (fun _ _ z => z) (fun h' u tk k => ⟨.str _, H, I.kept (t' := tk) k, ⟨_, rfl⟩, q⟩) hz
    | tuple ds =>
      have hd0 := hd
      cases hd0 with
      | tup h1 h2 =>
        obtain ⟨as, rd⟩ := Dp.reads I _ _ _ hd r1
        cases r1
        exact repr_of_reads' rd hs (fun z => by rw [nd] at z; cases z) hG (by omega) (fun _ _ z => z) (fun h' u tk k => ⟨.str _, H, I.kept (t' := tk) k, ⟨_, rfl⟩, q⟩) hz
/-- repr({}) -/
theorem call_repr0 (hG : X.A.guards = some []) (hu : X.A.units + 64 < cLine) : CallR X (.builtin "repr") (fun xs H Q => ∃ a, xs = [.ref a] ∧ H a = some (.dK []) ∧ Q (.str (PyData.shown (.dict []))) H) := by
  intro pins s σ H xs us Q I r h
  obtain ⟨a, rfl, ha, q⟩ := h
  cases r with
  | cons r1 rt =>
    cases rt
    cases r1
    obtain ⟨_, hsm, vs, kv, o, es, ep, ho, hex, hd, _, he, _⟩ := I.hok a _ ha
    cases kv
    have he' : es.toList = [] := by
      generalize es.toList = l at he ⊢
      cases he
      rfl
    have rd : Reads s.heap (.ref a) (.dict []) (a :: [] ++ []) := by
      refine Reads.dict (kvs := []) ho hex.1 hd ?_ ?_
      · rw [he']; exact .nil
      · rw [he']; exact .nil
    refine repr_of_reads' rd (by decide) (fun _ hm => ?_) hG (by have z : PyData.depth (.dict []) = 1 := (by decide); rw [z]; omega) (fun _ _ z => z) (fun h' u tk k => ⟨.str _, H, I.kept (t' := tk) k, ⟨_, rfl⟩, q⟩) (by decide)
    have : sysModules = a := by simpa using hm
    rw [this] at hsm
    simp at hsm
end
/-! ### the least, the greatest of texts -/
section
variable {X : Cx}
theorem holds_vals {P : Program} {w : World} {h : Heap} : ∀ {xs : List Str} {us : List Value}, Vals (xs.map V.str) us → PySem.W.HoldAll h us xs
  | [], _, .nil => PySem.W.HoldAll.nil
  | x :: xs, _, .cons r t => by
    obtain ⟨k, rfl⟩ := r
    exact PySem.W.HoldAll.cons (PySem.W.holds_str x k) (holds_vals (P := P) (w := w) t)
theorem cr_minS (hc : X.calm = true) (hu : X.A.units + 64 < cLine) : CallR X (.builtin "min") (fun vs H Q => ∃ (a : Addr) (x : Str) (xs : List Str), vs = [.ref a] ∧ SqT X.K H a ((x :: xs).map V.str) ∧ Q (.str (PySem.W.minOf x xs)) H) := by
  intro pins s σ H vs us Q I r h
  obtain ⟨a, x, xs, rfl, hx, q⟩ := h
  cases r with
  | cons r1 rt =>
    cases rt
    cases r1
    obtain ⟨its, rv, ⟨o, ho, hcl, n, hd⟩, _⟩ := I.tuple hx
    have hd0 : PySem.W.Datum.depth Str = 0 := rfl
    refine PySem.W.min_tuple_datum (vs := its.toArray) (I.ok.hd hc) ⟨o, ho, hcl, n, hd⟩ (holds_vals (P := X.prog) (w := X.w) (by simpa using rv)) (by rw [hd0]; omega) fun i v h' tk hi hh k => ?_
    obtain ⟨t, rfl⟩ := PySem.W.str_of_holds hh
    exact ⟨.str _, H, I.kept (t' := tk) k, ⟨_, rfl⟩, q⟩
theorem cr_maxS (hc : X.calm = true) (hu : X.A.units + 64 < cLine) : CallR X (.builtin "max") (fun vs H Q => ∃ (a : Addr) (x : Str) (xs : List Str), vs = [.ref a] ∧ SqT X.K H a ((x :: xs).map V.str) ∧ Q (.str (PySem.W.maxOf x xs)) H) := by
  intro pins s σ H vs us Q I r h
  obtain ⟨a, x, xs, rfl, hx, q⟩ := h
  cases r with
  | cons r1 rt =>
    cases rt
    cases r1
    obtain ⟨its, rv, ⟨o, ho, hcl, n, hd⟩, _⟩ := I.tuple hx
    have hd0 : PySem.W.Datum.depth Str = 0 := rfl
    refine PySem.W.max_tuple_datum (vs := its.toArray) (I.ok.hd hc) ⟨o, ho, hcl, n, hd⟩ (holds_vals (P := X.prog) (w := X.w) (by simpa using rv)) (by rw [hd0]; omega) fun i v h' tk hi hh k => ?_
    obtain ⟨t, rfl⟩ := PySem.W.str_of_holds hh
    exact ⟨.str _, H, I.kept (t' := tk) k, ⟨_, rfl⟩, q⟩
end
/-! ### list(text), text * int -/
section
variable {X : Cx}
theorem signs_vals : ∀ (l : List Nat) (us : List Value), us.length = l.length → (∀ (i : Nat) (c : Nat), l[i]? = some c → ∃ t, us[i]? = some (Value.str ⟨#[c]⟩ t)) → Vals (l.map fun c => V.str ⟨#[c]⟩) us
  | [], [], _, _ => .nil
  | [], _ :: _, h, _ => by simp at h
  | _ :: _, [], h, _ => by simp at h
  | c :: l, u :: us, h, e => by
    obtain ⟨t, et⟩ := e 0 c rfl
    have : u = Value.str ⟨#[c]⟩ t := by simpa using et
    exact .cons ⟨t, this⟩ (signs_vals l us (by simpa using h) fun i c' hc => by simpa using e (i + 1) c' (by simpa using hc))
theorem call_listS (hc : X.calm = true) : CallR X (.type "list") (fun xs H Q => ∃ z : Str, xs = [.str z] ∧ z.cps.size ≤ sizeLine ∧ ∀ p, H p = none → Q (.ref p) (upd H p (.lst (z.cps.toList.map fun c => V.str ⟨#[c]⟩)))) := by
  intro pins s σ H xs us Q I r h
  obtain ⟨z, rfl, hz, q⟩ := h
  cases r with
  | cons r1 rt =>
    cases rt
    obtain ⟨t, rfl⟩ := r1
    refine call_list_str (I.ok.hd hc) z t (fun h' tk acc c k ho hi => ?_) hz
    obtain ⟨hi1, hi2⟩ := hi
    refine ⟨.ref s.heap.objs.size, _, I.laid (t' := tk) (o := .lst (z.cps.toList.map fun c => V.str ⟨#[c]⟩)) k (Nat.le_refl _) ⟨by rw [List.length_map, Array.length_toList]; exact hz, acc.toList, c, ?_, by simpa using ho⟩, rfl, q _ (I.hok.fresh (Nat.le_refl _))⟩
    refine signs_vals _ _ (by rw [Array.length_toList, Array.length_toList]; exact hi1) fun i c' hc' => ?_
    have hlt : i < acc.size := by
      rw [hi1]
      rw [Array.getElem?_toList] at hc'
      exact (Array.getElem?_eq_some_iff.mp hc').1
    obtain ⟨c2, u, e1, e2⟩ := hi2 i acc[i] (Array.getElem?_eq_some_iff.mpr ⟨hlt, rfl⟩)
    rw [Array.getElem?_toList] at hc'
    rw [e1] at hc'
    have ec : c2 = c' := Option.some.inj hc'
    subst ec
    exact ⟨u, by rw [Array.getElem?_toList, Array.getElem?_eq_some_iff.mpr ⟨hlt, rfl⟩, e2]⟩
end
end Sw
namespace Sw
open PySem PySem.Spec PyProof.Rows L2
/-! ### text * int -/
theorem foldl_cat (a : Array Nat) : ∀ (k : Nat) (b : Array Nat), ((List.replicate k a).foldl (· ++ ·) b).size = b.size + k * a.size
  | 0, b => by simp
  | k + 1, b => by
    rw [List.replicate_succ, List.foldl_cons, foldl_cat a k (b ++ a), Array.size_append, Nat.succ_mul]
    omega
section
variable {X : Cx}
end
/-! ### set of a list of texts -/
/-- each once, as they are met -/
def once (xs : List Str) : List Str := xs.foldl (fun a x => if a.any (· == x) then a else a ++ [x]) []
theorem once_snoc (xs : List Str) (x : Str) : once (xs ++ [x]) = if (once xs).any (· == x) then once xs else once xs ++ [x] := by
  unfold once; rw [List.foldl_append]; rfl
theorem once_le : ∀ (n : Nat) (xs : List Str), xs.length = n → (once xs).length ≤ n
  | 0, xs, h => by rw [List.eq_nil_of_length_eq_zero h]; exact Nat.le_refl _
  | n + 1, xs, h => by
    obtain ⟨ys, y, rfl⟩ : ∃ ys y, xs = ys ++ [y] := ⟨xs.dropLast, xs.getLast (by intro e; rw [e] at h; cases h), (List.dropLast_concat_getLast _).symm⟩
    rw [List.length_append, List.length_singleton] at h
    have ih := once_le n ys (by omega)
    rw [once_snoc]
    split
    · omega
    · rw [List.length_append, List.length_singleton]; omega
section
variable {prog : Program} {w : World} {A : Around} {R : Result → Shared → Prop} {J : Addr} {fp wr : List Addr} {G : Array GenState → Array GenState → Prop} {n : Nat} {P : Nat → Value → Prop} {St : Nat → Shared → Prop}
theorem take_snoc {xs : List Str} {i : Nat} (h : i < xs.length) : xs.take (i + 1) = xs.take i ++ [xs.getD i Str.empty] := by
  rw [List.take_succ, List.getD_eq_getElem?_getD, List.getElem?_eq_getElem h]; rfl
theorem setLoop (W : WalksS prog w A.in1 J fp wr G n P St) (S : Addr) (hS0 : S ∉ fp) (xs : List Str) (hxn : xs.length = n) (hn : n + 1 < scanBound) (hv : ∀ i v, P i v → ∃ t, v = .str (xs.getD i Str.empty) t) :
    ∀ (k i : Nat) (s : Shared), n - i = k → i ≤ n → St i s → s.heap.SetOf (strKind prog w) S (fun y => (once (xs.take i)).any (· == y)) (once (xs.take i)).length →
      (∀ s', Moved (S :: wr) G s s' → s'.heap.SetOf (strKind prog w) S (fun y => (once xs).any (· == y)) (once xs).length → R (.ok (.ret .none)) s') →
      codeAny (model prog w) A (.builtin "set.update.loop" ⟨[.ref S, .ref J], []⟩) R s := by
  have notW : S ∉ wr := fun z => hS0 (W.sub _ z)
  have more : ∀ b ∈ wr, b ∈ S :: wr := fun b z => List.mem_cons_of_mem _ z
  intro k
  induction k with
  | zero =>
    intro i s hk hi hst hS hR
    obtain rfl : i = n := by omega
    refine codeAny_builtin (b := Builtin.«set.update.loop») PyProof.Rows.F.entry_set_update_loop ?_
    rw [show A.under (.builtin "set.update.loop" ⟨[.ref S, .ref J], []⟩) = A.in1 from Around.under_plainId PyProof.Rows.F.plain_set_update_loop _]
    show wpAny (model prog w) A.in1 (pyNext (.ref J) >>= _) _ _ s
    refine wpAny_bind (W.done s _ _ hst fun s2 m => ?_)
    show wpAny (model prog w) A.in1 (ret Value.none) _ _ s2
    refine wpAny_pure (hR s2 (m.mono more) ?_)
    rw [List.take_of_length_le (by omega)] at hS
    obtain ⟨o, es, ep, t, ho, q⟩ := hS
    exact ⟨o, es, ep, t, m.heap S _ notW ho, q⟩
  | succ k ih =>
    intro i s hk hi hst hS hR
    have lt : i < n := by omega
    refine codeAny_builtin (b := Builtin.«set.update.loop») PyProof.Rows.F.entry_set_update_loop ?_
    rw [show A.under (.builtin "set.update.loop" ⟨[.ref S, .ref J], []⟩) = A.in1 from Around.under_plainId PyProof.Rows.F.plain_set_update_loop _]
    show wpAny (model prog w) A.in1 (pyNext (.ref J) >>= _) _ _ s
    refine wpAny_bind (W.item i s _ _ lt hst fun v s2 hP hst2 m => ?_)
    obtain ⟨t, rfl⟩ := hv i v hP
    have hS2 : s2.heap.SetOf (strKind prog w) S (fun y => (once (xs.take i)).any (· == y)) (once (xs.take i)).length := by
      obtain ⟨o, es, ep, tb, ho, q⟩ := hS
      exact ⟨o, es, ep, tb, m.heap S _ notW ho, q⟩
    show wpAny (model prog w) A.in1 (holding [Value.str (xs.getD i Str.empty) t] (setAdd S (.str (xs.getD i Str.empty) t)) >>= _) _ _ s2
    refine wpAny_bind (wpAny_holding ?_)
    unfold setAdd
    refine wpAny_holding (wpAny_bind ((strKind prog w).pyHash (k := xs.getD i Str.empty) (strKind_is _ _ _ _) ?_))
    have room : (once (xs.take i)).length + 1 < scanBound := by
      have := once_le i (xs.take i) (by rw [List.length_take]; omega)
      omega
    refine wpAny_setAddHashed_of (knd := strKind prog w) (s := { s2 with toks := s2.toks + 1 }) (strKind_is _ _ _ _) rfl hS2 room fun h' sb hN => ?_
    have hNi : h'.SetOf (strKind prog w) S (fun y => (once (xs.take (i + 1))).any (· == y)) (once (xs.take (i + 1))).length := by
      refine SetOf_congr hN (fun y => ?_) ?_
      · rw [take_snoc (by omega), once_snoc]
        by_cases e : (once (xs.take i)).any (· == xs.getD i Str.empty) = true
        · rw [if_pos e]
          by_cases ey : y = xs.getD i Str.empty
          · subst ey; rw [e]; simp
          · rw [decide_eq_false ey, Bool.or_false]
        · rw [if_neg e, List.any_append]
          by_cases ey : y = xs.getD i Str.empty
          · subst ey; simp
          · have ne : (xs.getD i Str.empty == y) = false := by simpa [beq_iff_eq] using fun z : xs.getD i Str.empty = y => ey z.symm
            simp only [List.any_cons, List.any_nil, ne, Bool.or_false, decide_eq_false ey]
      · rw [take_snoc (by omega), once_snoc]
        split
        · rfl
        · rw [List.length_append]; rfl
    refine wpAny_pure ⟨plainId_quiet PyProof.Rows.F.plain_set_update_loop _, ih (i + 1) _ (by omega) lt (W.frame _ s2 _ _ hst2 (Nat.le_succ _) fun b hb o z => ?_) hNi fun s3 m3 hS3 => ?_⟩
    · rw [sb.2 b (fun z2 : b = S => hS0 (by rw [← z2]; exact hb))]; exact z
    · refine hR s3 (Moved.trans W.gtrans ((m.mono more).then_heap (Nat.le_succ _) fun b o hb z => ?_) m3) hS3
      rw [sb.2 b (fun z2 : b = S => hb (by rw [z2]; exact List.mem_cons_self))]; exact z
end
/-- a set as it is made -/
abbrev bare (led : Bool) : Obj := { cls := .type "set", dict := none, data := .set #[] 0 (.fresh 0 0 led) }
section
variable {w : World} {A : Around} {s : Shared} {prog : Program} {E : Value → Shared → Prop}
theorem set_of_texts {l : Addr} {items : Array Value} {xs : List Str} {Q : Value → Shared → Prop}
    (hh : A.handled = none) (hl : s.heap.IsList l items) (hi : StrsAre items.toList xs) (hn : items.size + 1 < scanBound)
    (h : ∀ (h' : Heap) (tk : Nat), h'.SetOf (strKind prog w) s.heap.objs.size (fun y => (once xs).any (· == y)) (once xs).length →
      (∀ b o, b < s.heap.objs.size → s.heap.get? b = some o → h'.get? b = some o) → Q (.ref s.heap.objs.size) { s with heap := h', toks := tk }) :
    wpAny (model prog w) A (call (.type "set") [.ref l]) Q E s := by
  have hxs : xs.length = items.size := by rw [← hi.length, Array.length_toList]
  obtain ⟨c, tl, mr⟩ := PySem.F.called_set.mro
  have mk0 := PySem.F.called_set.made
  have sb0 := PySem.F.called_set.sub
  refine wpAny_call (codeAny_of_tree (show wpAny _ _ (callAny (.type "set") _) _ _ _ from ?_))
  refine wpAny_pure ⟨Code.quiet_builtin _ (by decide +kernel), codeAny_builtin PySem.F.entry_type_call ?_⟩
  rw [Around.under_plain (weight_type_call_type "set" [.ref l] []) rfl]
  have h1 := PySem.F.called_set.notType
  have h2 := PySem.F.called_set.canCreate
  have tc0 := PySem.F.typeCall_set_1 (.ref l)
  repeat (any_goals (first | assumption | wp_step))
  refine codeAny_mono (code_set_new_1 (.ref l) (E := E) (Q₁ := fun ob s₁ => ∃ led : Bool, ob = .ref s.heap.objs.size ∧ s₁ = { s with heap := s.heap.push (bare led) }) fun led => ⟨led, rfl, rfl⟩) fun r s₁ hr => ?_
  cases r with
  | error e => exact hr
  | ok fl =>
    cases fl with
    | ret ob =>
      obtain ⟨led, rfl, rfl⟩ := hr
      have zS : (s.heap.push (bare led)).get? s.heap.objs.size = some (bare led) := Heap.get?_push_size _ rfl
      have zT : Shared.TypeIs { s with heap := s.heap.push (bare led) } (.ref s.heap.objs.size) "set" := ⟨_, zS, rfl⟩
      have ini := PySem.F.called_set.init.lookup
      have bnd := PySem.F.called_set.init.bind (.ref s.heap.objs.size)
      repeat (any_goals (first | assumption | wp_step))
      refine codeAny_mono (codeAny_call_builtin (R := wants (fun r t2 => r = .none ∧ ∃ h' tk, t2 = { s with heap := h', toks := tk } ∧ h'.SetOf (strKind prog w) s.heap.objs.size (fun y => (once xs).any (· == y)) (once xs).length ∧
          (∀ b o, b < s.heap.objs.size → s.heap.get? b = some o → h'.get? b = some o)) E) PySem.F.called_set.init.plain PySem.F.entry_set_init (check_set_init_1 zT ?_)) fun r2 t2 z₂ => ?_
      · obtain ⟨obL, atL, clL, nL, dtL⟩ := hl
        obtain ⟨k1, k2, k3, k4⟩ := obL
        simp only at clL dtL
        subst clL; subst dtL
        have atL2 : (s.heap.push (bare led)).get? l = some { cls := .type "list", dict := k2, data := .seq items nL, slots := k4 } := Heap.get?_push_of_some _ atL
        have sub1 := PySem.F.sub_list_set
        have sub2 := PySem.F.sub_list_frozenset
        have dne : (Value.type "list" == Value.type "dict") = false := by decide
        have lst1 : (s.heap.push (bare led)).IsList l items := ⟨_, atL2, rfl, nL, rfl⟩
        unfold Builtin.«set.__init__» noKeywords Builtin.Frozenset.updateFrom
        generalize hide : pyIter = IT
        wp_walk
        subst hide
        refine wpAny_pyIter_list lst1 ?_
        refine wpAny_bind (wpAny_runValue ?_)
        have ltS : l < s.heap.objs.size := Heap.lt_size atL
        have calm3 : A.in1.in1.in1.handled = none := by simp [hh]
        have apart : l ≠ (s.heap.push (bare led)).objs.size := by
          rw [Heap.size_push]; exact Nat.ne_of_lt (Nat.lt_succ_of_lt ltS)
        have nofp : s.heap.objs.size ∉ [(s.heap.push (bare led)).objs.size, l] := by
          rw [Heap.size_push]; simp only [List.mem_cons, List.mem_singleton, List.not_mem_nil, or_false, not_or]
          exact ⟨Nat.ne_of_lt (Nat.lt_succ_self _), Nat.ne_of_gt ltS⟩
        have told : ∀ (i : Nat) (v : Value), items[i]? = some v → ∃ t, v = .str (xs.getD i Str.empty) t := fun i v hv => SS.strs_at hi i v (by rw [Array.getElem?_toList]; exact hv)
        refine setLoop ((Walks.list calm3 _ l apart items).toS) s.heap.objs.size nofp xs hxs hn told (items.size - 0) 0 _ (by omega) (Nat.zero_le _)
          ⟨⟨_, Heap.get?_push_size _ rfl, rfl, rfl⟩, (lst1.push _)⟩ ?c1 ?c2
        case c1 =>
          have atS : ((s.heap.push (bare led)).push { cls := .type "list_iterator", data := .fields #[.ref l, .int 0 0] }).get? s.heap.objs.size
              = some (bare led) := Heap.get?_push_of_some _ zS
          exact SetOf_congr ((setObjOf_fresh (knd := strKind prog w) led).setOf atS (by unfold scanBound; omega)) (fun _ => rfl) rfl
        case c2 =>
          intro s' mv zS2
          obtain ⟨h', g', d', tk', os'⟩ := s'
          have qg : g' = s.gens := mv.gens
          have qd : d' = s.drawn := mv.drawn
          have qo : os' = s.os := mv.os
          subst qg; subst qd; subst qo
          show wpAny _ _ _ _ _ _
          refine wpAny_pure ?_
          show wpAny _ _ (ret Value.none) _ _ _
          refine wpAny_pure ⟨rfl, h', tk', rfl, zS2, fun b o hb e => ?_⟩
          have ne1 : b ≠ s.heap.objs.size := Nat.ne_of_lt hb
          have ne2 : b ≠ (s.heap.push (bare led)).objs.size := by
            rw [Heap.size_push]; exact Nat.ne_of_lt (Nat.lt_succ_of_lt hb)
          exact mv.heap b o (by simp only [List.mem_cons, List.mem_singleton, List.not_mem_nil, or_false, not_or]; exact ⟨ne1, ne2⟩) (Heap.get?_push_of_some _ (Heap.get?_push_of_some _ e))
      · cases r2 with
        | error e => exact z₂
        | ok fl₂ =>
          cases fl₂ with
          | ret r =>
            obtain ⟨rfl, h', tk, rfl, zS2, kk⟩ := z₂
            repeat (any_goals (first | assumption | wp_step))
            exact h _ _ zS2 kk
          | _ => exact z₂.elim
    | _ => exact hr.elim
end
end Sw
namespace Sw
open PySem PySem.Spec PyProof.Rows L2
/-! ### set(list of texts), len of it -/
/-- a set of n texts stands at a -/
def TxO (P : Program) (w : World) (a : Addr) (n : Nat) : HO := .ext fun h => ∃ S, h.SetOf (strKind P w) a S n
section
variable {X : Cx}
theorem strs_vals : ∀ {xs : List Str} {us : List Value}, Vals (xs.map V.str) us → StrsAre us xs
  | [], _, .nil => .nil
  | x :: xs, _, .cons r t => by
    obtain ⟨k, rfl⟩ := r
    exact .cons x k (strs_vals t)
theorem call_setTx (hc : X.calm = true) : CallR X (.type "set") (fun vs H Q => ∃ (a : Addr) (xs : List Str), vs = [.ref a] ∧ SqL X.K H a (xs.map V.str) ∧ xs.length ≤ 1000 ∧ ∀ p, H p = none → Q (.ref p) (upd H p (TxO X.prog X.w p (once xs).length))) := by
  intro pins s σ H vs us Q I r h
  obtain ⟨a, xs, rfl, hx, hz, q⟩ := h
  cases r with
  | cons r1 rt =>
    cases rt
    cases r1
    obtain ⟨its, rv, hl, _⟩ := I.list hx
    have hlen := rv.length
    rw [List.length_map] at hlen
    refine set_of_texts (I.ok.hd hc) hl.isList (by simpa using strs_vals rv) (by rw [List.size_toArray, ← hlen]; unfold scanBound; omega) fun h' tk hS k => ?_
    obtain ⟨o, es, ep, t, ho, rest⟩ := id hS
    refine ⟨.ref s.heap.objs.size, _, I.laid (t' := tk) (o := TxO X.prog X.w s.heap.objs.size (once xs).length) (fun b ob e => k b ob (Heap.lt_size e) e) (Nat.le_refl _) ?_, rfl, q _ (I.hok.fresh (Nat.le_refl _))⟩
    exact ⟨⟨_, hS⟩, ⟨o, ho⟩, fun h1 h2 ⟨S, o1, e1, e2, t1, z, z2⟩ kk => ⟨S, o1, e1, e2, t1, kk _ z, z2⟩⟩
theorem call_lenTx : CallR X (.builtin "len") (fun vs H Q => ∃ (a : Addr) (n : Nat), vs = [.ref a] ∧ H a = some (TxO X.prog X.w a n) ∧ Q (.int n) H) := by
  intro pins s σ H vs us Q I r h
  obtain ⟨a, n, rfl, ha, q⟩ := h
  cases r with
  | cons r1 rt =>
    cases rt
    cases r1
    obtain ⟨⟨S, o, es, ep, t, ho, hex, hd, _, _, hb, hf, hn⟩, _⟩ := I.hok a _ ha
    exact call_len_set ho hex hd hf (by unfold scanBound at hb; omega) ⟨.int n, H, I.tok _, ⟨_, by rw [hn]⟩, q⟩
end
/-! ### (a, b)[::-1] -/
section
variable {prog : Program} {w : World} {A : Around} {E : Value → Shared → Prop} {s : Shared}
theorem applied_back {sl : Addr} {vk : Value} {Q : Int × Int × Nat → Shared → Prop} (hs : s.heap.IsSliceOf sl .none .none vk) (hk : IsPart vk (some (-1)))
    (h : Q (1, -1, 2) s) : wpAny (model prog w) A (Builtin.Slice.sliceApplied (.ref sl) (pure (2 : Int))) Q E s := by
  obtain ⟨os, hos, hcs, hds⟩ := id hs
  unfold Builtin.Slice.sliceApplied Builtin.Slice.sliceFields
  refine wpAny_bind (wpAny_bind (wpAny_field hos hds (x := .none) rfl (wpAny_bind (wpAny_field hos hds (x := .none) rfl (wpAny_bind (wpAny_field hos hds (x := vk) rfl (wpAny_pure ?_)))))))
  refine wpAny_bind (HT.slicePart_ hk ?_)
  show wpAny (model prog w) _ (if ((-1 : Int) == 0) = true then _ else _) _ _ s
  rw [if_neg (show ¬ ((-1 : Int) == 0) = true by decide)]
  refine wpAny_bind (HT.slicePart_ .none (wpAny_bind (HT.slicePart_ .none (wpAny_bind (wpAny_pure ?_)))))
  exact wpAny_pure h
theorem tuple_back {t sl : Addr} {u v : Value} {vk : Value} {Q : Value → Shared → Prop} (ht : IsTup s.heap t #[u, v]) (hs : s.heap.IsSliceOf sl .none .none vk) (hk : IsPart vk (some (-1)))
    (h : Q (.ref s.heap.objs.size) { s with heap := s.heap.push { cls := .type "tuple", data := .seq #[v, u] } }) : wpAny (model prog w) A (getItem (.ref t) (.ref sl)) Q E s := by
  obtain ⟨os, hos, hcs, hds⟩ := id hs
  have hTs : s.TypeIs (.ref sl) "slice" := ⟨os, hos, hcs⟩
  unfold getItem
  try with_reducible refine wpAny_holding ?_
  first | refine wpAny_bind (wpAny_pure ?_) | skip
  refine wpAny_bind (wpAny_sequenceKey ht.typeIs (by decide) ?_)
  refine wpAny_bind (wpAny_callSpecial?_slot (name := Str.ofString "__getitem__") ht.typeIs PyProof.Rows.slot_tuple_getitem
    (wpAny_call_entry PyProof.Rows.slot_tuple_getitem ht.typeIs entry_tuple_getitem ?_ (args_tuple_getitem _ _)))
  show wpAny (model prog w) _ (Builtin.Tuple.tupleItemsOf (.ref t) >>= _) _ _ s
  refine wpAny_bind (tupleItemsOf_ ht ?_)
  refine wpAny_bind (wpAny_typeOf hTs ?_)
  rw [if_pos (show (Value.type "slice" == Value.type "slice") = true from by decide)]
  refine wpAny_bind (applied_back hs hk ?_)
  show wpAny (model prog w) _ (if ((1 : Int) == 0 && (-1 : Int) == 1 && (2 : Nat) == 2) = true then _ else _) _ _ s
  rw [if_neg (show ¬ ((1 : Int) == 0 && (-1 : Int) == 1 && (2 : Nat) == 2) = true by decide)]
  have e : ((List.range 2).filterMap fun (k : Nat) => (#[u, v] : Array Value)[((1 : Int) + (k : Int) * (-1)).toNat]?).toArray = #[v, u] := rfl
  show wpAny (model prog w) _ (_ >>= _) _ _ s
  have hz : sizeOk (.seq #[v, u]) := by show 2 ≤ sizeLine; decide
  first
    | exact wpAny_bind (m := Builtin.Tuple.tupleExact _) (wpAny_newObj_type (wpAny_pure ⟨_, rfl, wpAny_pure h⟩) hz)
    | exact wpAny_bind (m := Builtin.Tuple.tupleExact _) (wpAny_newObj_type (wpAny_bind (wpAny_pure (wpAny_pure ⟨_, rfl, wpAny_pure h⟩))) hz)
    | exact wpAny_bind (wpAny_bind (m := Builtin.Tuple.tupleExact _) (wpAny_newObj_type (wpAny_pure (wpAny_pure ⟨_, rfl, wpAny_pure h⟩)) hz))
    | exact wpAny_bind (wpAny_bind (m := Builtin.Tuple.tupleExact _) (wpAny_newObj_type (wpAny_pure ⟨_, rfl, wpAny_pure h⟩) hz))
end
section
variable {X : Cx}
/-- (x, y)[::-1] -/
theorem pe_back {e : Expr} {te : TE} {k : Nat} {p1 p2 p3 pos : Pos} (he : PE X e te) : PE X (.Subscript e (.Slice none none (some (.UnaryOp .USub (.Constant (.int 1) k p1) p2)) p3) pos)
    (fun σ H Q => te σ H fun x H1 => ∃ a u v, x = .ref a ∧ SqT X.K H1 a [u, v] ∧ ∀ p, H1 p = none → Q (.ref p) (upd H1 p (.tup [v, u]))) := by
  refine ⟨fun pins s σ H Q I h => Subscript_ (thn (he.run pins s σ H _ I h) fun z s1 ⟨x, H1, J, r1, a, u, v, ex, hx, q⟩ => ?_)⟩
  subst ex
  cases r1
  have hst : PO X (some (.UnaryOp .USub (.Constant (.int 1) k p1) p2)) (tPart (tUn (rU fun i => .int (-i)) (tC (.int 1)))) := po_some (pe_un un_neg pe_int)
  refine wpAny_Slice (thn (po_none.run pins s1 σ H1 (fun o G => o = none ∧ G = H1) J ⟨rfl, rfl⟩) fun vl s2 ⟨l, G2, J2, pl, el, e2⟩ => ?_)
  subst el e2
  refine thn (po_none.run pins s2 σ G2 (fun o G => o = none ∧ G = G2) J2 ⟨rfl, rfl⟩) fun vu s3 ⟨m, G3, J3, pu, eu, e3⟩ => ?_
  subst eu e3
  refine thn (hst.run pins s3 σ G3 (fun o G => o = some (-1) ∧ G = G3) J3 ⟨1, rfl, -1, rfl, rfl, rfl⟩) fun vs s4 ⟨o, G4, J4, ps, eo, e4⟩ => ?_
  subst eo e4
  have J5 : Inv X pins σ G4 { s4 with heap := s4.heap.push { cls := .type "slice", data := .fields #[vl, vu, vs] } } := J4.kept (t' := s4.toks) fun b ob q => Heap.get?_push_of_some _ q
  obtain ⟨its, r, ht, hz⟩ := J5.tuple hx
  cases pl
  cases pu
  cases r with
  | cons ru r =>
    cases r with
    | cons rv' r =>
      cases r
      refine tail_any (ops := [.ref a, .ref s4.heap.objs.size]) ht.typeIs PyProof.Rows.slot_tuple_getitem.lookup ?_ (by with_unfolding_all rfl)
      refine tuple_back ht (Heap.IsSliceOf.new _ .none .none vs) ps ?_
      refine ⟨.ref _, _, J5.laid (t' := s4.toks) (o := .tup [v, u]) (fun b ob q => Heap.get?_push_of_some _ q) (Nat.le_refl _) ?_, rfl, q _ (J5.hok.fresh (Nat.le_refl _))⟩
      exact ⟨by show 2 ≤ sizeLine; decide, _, .cons rv' (.cons ru .nil), IsTup.new _ _⟩
end
/-! ### calls: all by keywords; a def with a star -/
section
variable {X : Cx} {CX : CXT} {k : Nat} {f : Addr} {fd : FuncData} {ps ks : List Str} {sp : Sp} {E : XK} {x : Str} {p pos : Pos} {e : Expr} {es : List Expr} {kws : List Keyword} {t tk : TA} {g : List Value → List Value → List Value} {gV : List V → List V → List V}
theorem pe_callR (F : FnR X.prog X.w X.K X.mg X.base CX k f sp) (hr : Room k X.A) (hg : Gl X x) (hm : X.mg x = some (.ref f)) (hk : PySem.W.keepIn X.K (.ref f) = true) (hx : Passes CX X E) (ha : PA X (e :: es) t) (hd : (x == ("__debug__" : Str)) = false := by decide)
    (he : starEach (e :: es) X.env = (false, eval e X.env) :: starEach es X.env := by rfl) (hp : (backTo pos (starEach es X.env)).any (·.1) = false := by rfl) : PE X (.Call (.Name x p) (e :: es) [] pos) (fun σ H Q => t σ H fun vs H1 => sp vs H1 Q E) := by
  refine ⟨fun pins s σ H Q I h => wpAny_Call_Name_kw (ld_glob I hg hm ?_ hd)⟩
  refine PySem.W.callWith_K (h₀ := X.base) I.ok.mod.kin hk (thn (ha.run pos pins s σ H _ I h) fun us s1 ⟨vs, H1, J, r, q⟩ => ⟨J.kIn, ?_⟩) he hp
  exact wpAny_call (run_fnR F hr hx J r q)
end
end Sw
namespace Sw
open PySem PySem.Spec PyProof.Rows L2
section
variable {X : Cx} {CX : CXT} {k : Nat} {f : Addr} {fd : FuncData} {ps ks : List Str} {sp : Sp} {E : XK} {x : Str} {p pos : Pos} {kws : List Keyword} {tk : TA} {g : List Value → List Value → List Value} {gV : List V → List V → List V}
/-- f(k = v, ..) -/
theorem pe_callKw (F : FnOk X.prog X.w X.K X.mg X.base CX k f fd ps sp) (hr : Room k X.A) (hg : Gl X x) (hm : X.mg x = some (.ref f)) (hk : PySem.W.keepIn X.K (.ref f) = true) (hb : KBn X.K fd ps 0 ks g gV) (hx : Passes CX X E) (hkw : PK X kws tk)
    (hall : (backToKw pos (keywordEach kws X.env)).all (·.1.isSome) = true := by rfl) (hks : (backToKw pos (keywordEach kws X.env)).filterMap (·.1) = ks := by rfl) (hd : (x == ("__debug__" : Str)) = false := by decide)
    (hp : ((backTo pos (starEach [] X.env)).any (·.1) || (backToKw pos (keywordEach kws X.env)).any (·.1.isNone)) = false := by rfl) : PE X (.Call (.Name x p) [] kws pos) (fun σ H Q => tk σ H fun zs H2 => zs.length = ks.length ∧ sp (gV [] zs) H2 Q E) := by
  refine ⟨fun pins s σ H Q I h => wpAny_Call_Name_kw (ld_glob I hg hm ?_ hd)⟩
  refine PySem.W.callWith_KW0 (h₀ := X.base) I.ok.mod.kin hk hall ?_ hp
  refine thn (hkw.run pos pins s σ H _ I h) fun ws s2 ⟨zs, H2, J, rz, l2, q2⟩ => ⟨J.kIn, ?_⟩
  rw [hks]
  exact run_fnN (us := []) (vs := []) F hr hb hx J .nil rz rfl l2 q2
end
/-- all parameters by name, in their order -/
theorem kb_all {K : PySem.W.Frag} {x q : Str} {pa : Arguments} {bo : List Stmt} {sc : Scope} {f : Addr} {fd : FuncData} {ps : List Str} (F : FunD K x q pa bo sc [] [] f fd)
    (h : ∀ (kV doc pm : Value) (an : Option Addr) (cv ct : Value) (ws : List Value), ws.length = ps.length → bindArgs (PySem.W.fnOf x q pa bo sc .none kV doc pm an cv ct) ⟨[], ps.zip ws⟩ = pure (ps.zip ws)) : KBn K fd ps 0 ps (fun us ws => us ++ ws) (fun vs zs => vs ++ zs) := by
  obtain ⟨oc, od, dV, kV, doc, pm, an, cv, ct, osl, rfl, lk, hcd, hD, hK⟩ := F.ex
  rcases hD with ⟨_, rfl⟩ | ⟨e, _⟩
  · refine ⟨fun s us ws _ l1 l2 => ?_, fun r1 r2 => r1.append r2⟩
    obtain rfl : us = [] := List.eq_nil_of_length_eq_zero l1
    exact .of_eq (h kV doc pm an cv ct ws l2)
  · exact absurd rfl e
/-! ### the bounds of a run's beginning -/
theorem units_of {k : Nat} {A : Around} (hr : Room k A) : A.units + 64 < cLine := hr.units
/-- a value of a kind that isinstance tells -/
inductive Kd (K : PySem.W.Frag) (H : Hp) : V → Prop
  | non : Kd K H .non
  | bl (b : Bool) : Kd K H (.bl b)
  | int (i : Int) : Kd K H (.int i)
  | str (z : Str) (h : z.length ≤ 1000000) : Kd K H (.str z)
  | lst {a : Addr} {xs : List V} (h : H a = some (.lst xs)) : Kd K H (.ref a)
  | tup {a : Addr} {xs : List V} (h : H a = some (.tup xs)) : Kd K H (.ref a)
  | dk {a : Addr} {xs : List (Key × V)} (h : H a = some (.dK xs)) : Kd K H (.ref a)
theorem Kd.same {K : PySem.W.Frag} {H H' : Hp} {x : V} (h : Kd K H x) (s : Same H H') : Kd K H' x := by
  cases h with
  | non => exact .non
  | bl b => exact .bl b
  | int i => exact .int i
  | str z h => exact .str z h
  | lst h => exact .lst (s _ _ h)
  | tup h => exact .tup (s _ _ h)
  | dk h => exact .dk (s _ _ h)
def isStrV : V → Bool
  | .str _ => true
  | _ => false
theorem isi_str {K : PySem.W.Frag} {H : Hp} {x : V} (h : Kd K H x) : ∃ t, TyX K H x t ∧ PySem.W.kitOne K t (.type "str") = some (isStrV x) := by
  cases h with
  | non => exact ⟨_, .base .non, kit_ty (a := "NoneType") (b := "str") (r := false) (by decide +kernel)⟩
  | bl b => exact ⟨_, .base (.bl b), kit_ty (a := "bool") (b := "str") (r := false) (by decide +kernel)⟩
  | int i => exact ⟨_, .base (.int i), kit_ty (a := "int") (b := "str") (r := false) (by decide +kernel)⟩
  | str z h => exact ⟨_, .base (.str z), kit_ty (a := "str") (b := "str") (r := true) (by decide +kernel)⟩
  | lst h => exact ⟨_, .base (.lst h), kit_ty (a := "list") (b := "str") (r := false) (by decide +kernel)⟩
  | tup h => exact ⟨_, .base (.tup h), kit_ty (a := "tuple") (b := "str") (r := false) (by decide +kernel)⟩
  | dk h => exact ⟨_, .base (.dK h), kit_ty (a := "dict") (b := "str") (r := false) (by decide +kernel)⟩
end Sw
namespace Sw
open PySem PySem.Spec PyProof.Rows L2
/-! ### small data -/
def asc (z : Str) : Bool := z.cps.toList.all fun c => decide (c < 128)
mutual
def okD : PyData → Bool
  | .none | .bool _ => true
  | .int i => decide (i.natAbs < 10 ^ 7)
  | .str x => asc x
  | .list xs | .tuple xs => okAll xs
  | .dict _ => false
def okAll : List PyData → Bool
  | [] => true
  | x :: xs => okD x && okAll xs
end
theorem asc_lt {z : Str} (h : asc z = true) : ∀ c ∈ z.cps.toList, c < 128 := fun c hc => of_decide_eq_true (List.all_eq_true.mp h c hc)
mutual
theorem ok_can : ∀ d : PyData, okD d = true → d.canLay0 = true
  | .none, _ => by simp only [PyData.canLay0]
  | .bool _, _ => by simp only [PyData.canLay0]
  | .int _, _ => by simp only [PyData.canLay0]
  | .str x, h => by
    have := asc_lt (by simpa only [okD] using h)
    simp only [PyData.canLay0, PyData.strOk]
    rw [← Array.all_toList]
    exact List.all_eq_true.mpr fun c hc => decide_eq_true (Nat.lt_of_lt_of_le (this c hc) (by decide))
  | .list xs, h => by simpa only [PyData.canLay0] using ok_canAll xs (by simpa only [okD] using h)
  | .tuple xs, h => by simpa only [PyData.canLay0] using ok_canAll xs (by simpa only [okD] using h)
  | .dict _, h => by simp [okD] at h
theorem ok_canAll : ∀ ds : List PyData, okAll ds = true → PyData.canLayAll0 ds = true
  | [], _ => by simp only [PyData.canLayAll0]
  | d :: ds, h => by
    obtain ⟨h1, h2⟩ := Bool.and_eq_true_iff.mp (show (okD d && okAll ds) = true by simpa only [okAll] using h)
    simp only [PyData.canLayAll0, ok_can d h1, ok_canAll ds h2, Bool.and_self]
end
mutual
theorem ok_show : ∀ d : PyData, okD d = true → d.showable = true
  | .none, _ => by simp only [PyData.showable]
  | .bool _, _ => by simp only [PyData.showable]
  | .int i, h => by
    have h1 : i.natAbs < 10 ^ 7 := of_decide_eq_true (by simpa only [okD] using h)
    simp only [PyData.showable]
    exact decide_eq_true (by
      by_cases z : i.natAbs = 0
      · rw [z]; decide
      · have : i.natAbs.log2 < 24 := (Nat.log2_lt z).mpr (by omega)
        omega)
  | .str x, _ => by simp only [PyData.showable]
  | .list xs, h => by simpa only [PyData.showable] using ok_showAll xs (by simpa only [okD] using h)
  | .tuple xs, h => by simpa only [PyData.showable] using ok_showAll xs (by simpa only [okD] using h)
  | .dict _, h => by simp [okD] at h
theorem ok_showAll : ∀ ds : List PyData, okAll ds = true → PyData.showableAll ds = true
  | [], _ => by simp only [PyData.showableAll]
  | d :: ds, h => by
    obtain ⟨h1, h2⟩ := Bool.and_eq_true_iff.mp (show (okD d && okAll ds) = true by simpa only [okAll] using h)
    simp only [PyData.showableAll, ok_show d h1, ok_showAll ds h2, Bool.and_self]
end
mutual
theorem ok_short : ∀ d : PyData, okD d = true → d.leavesShort 10 = true
  | .none, _ => by simp only [PyData.leavesShort]
  | .bool _, _ => by simp only [PyData.leavesShort]
  | .int i, h => by
    have h1 : i.natAbs < 10 ^ 7 := of_decide_eq_true (by simpa only [okD] using h)
    simp only [PyData.leavesShort]
    have := int_text_length_le10 (k := 7) (by decide) h1
    refine decide_eq_true ?_
    simp only [PyData.shown]
    rw [PySem.ofString_length]
    omega
  | .str x, h => by
    have h1 := asc_lt (by simpa only [okD] using h)
    simp only [PyData.leavesShort]
    exact List.all_eq_true.mpr fun c hc => decide_eq_true (Nat.lt_of_lt_of_le (h1 c hc) (by decide))
  | .list xs, h => by simpa only [PyData.leavesShort] using ok_shortAll xs (by simpa only [okD] using h)
  | .tuple xs, h => by simpa only [PyData.leavesShort] using ok_shortAll xs (by simpa only [okD] using h)
  | .dict _, h => by simp [okD] at h
theorem ok_shortAll : ∀ ds : List PyData, okAll ds = true → PyData.leavesShortAll 10 ds = true
  | [], _ => by simp only [PyData.leavesShortAll]
  | d :: ds, h => by
    obtain ⟨h1, h2⟩ := Bool.and_eq_true_iff.mp (show (okD d && okAll ds) = true by simpa only [okAll] using h)
    simp only [PyData.leavesShortAll, ok_short d h1, ok_shortAll ds h2, Bool.and_self]
end
/-- data that repr and == take -/
structure Good (d : PyData) : Prop where
  ok : okD d = true
  dp : d.depth ≤ 60
  bk : d.bulk ≤ 2 ^ 20
theorem Good.shaped {d : PyData} (g : Good d) : SeqAt.shaped d = true := by
  unfold SeqAt.shaped
  rw [ok_can d g.ok, Bool.true_and]
  exact decide_eq_true (Nat.le_trans g.dp (by decide))
section
variable {X : Cx}
theorem call_rp (hG : X.A.guards = some []) (hu : X.A.units + 64 < cLine) : CallR X (.builtin "repr") (fun xs H Q => ∃ x d, xs = [x] ∧ Dp X.K H x d ∧ Good d ∧ Q (.str d.shown) H) := by
  intro pins s σ H xs us Q I r ⟨x, d, e, h, g, q⟩
  exact call_reprD hG hu pins s σ H xs us Q I r ⟨x, d, e, h, ok_show d g.ok, g.dp, PyData.shown_fits_bulk (B := 10) (by decide) (by decide) (ok_short d g.ok) g.bk, q⟩
theorem op_eqG (hu : X.A.units + 64 < cLine) : OpR X (compareOp .Eq) (fun x y H Q => ∃ d e, Dp X.K H x d ∧ Dp X.K H y e ∧ Good d ∧ Good e ∧ Q (.bl (PyData.eqv d e)) H) := by
  intro pins s σ H x y v u Q I rx ry ⟨d, e, h1, h2, g1, g2, q⟩
  exact op_eqD hu pins s σ H x y v u Q I rx ry ⟨d, e, h1, h2, g1.shaped, g2.shaped, q⟩
theorem op_neG (hu : X.A.units + 64 < cLine) : OpR X (compareOp .NotEq) (fun x y H Q => ∃ d e, Dp X.K H x d ∧ Dp X.K H y e ∧ Good d ∧ Good e ∧ Q (.bl (!PyData.eqv d e)) H) := by
  intro pins s σ H x y v u Q I rx ry ⟨d, e, h1, h2, g1, g2, q⟩
  exact op_neD hu pins s σ H x y v u Q I rx ry ⟨d, e, h1, h2, g1.shaped, g2.shaped, q⟩
end
/-! ### flat lists as data -/
theorem dp_strs {K : PySem.W.Frag} {H : Hp} : ∀ xs : List Str, DpAll K H (xs.map V.str) (xs.map PyData.str)
  | [] => .nil
  | x :: xs => .cons (.str x) (dp_strs xs)
theorem dp_ints {K : PySem.W.Frag} {H : Hp} : ∀ xs : List Int, DpAll K H (xs.map V.int) (xs.map PyData.int)
  | [] => .nil
  | x :: xs => .cons (.int x) (dp_ints xs)
theorem ok_strs : ∀ {xs : List Str}, (∀ x ∈ xs, asc x = true) → okAll (xs.map PyData.str) = true
  | [], _ => by simp only [List.map_nil, okAll]
  | x :: xs, h => by simp only [List.map_cons, okAll, okD, h x (List.mem_cons_self ..), ok_strs fun y hy => h y (List.mem_cons_of_mem _ hy), Bool.and_self]
theorem depth_strs : ∀ xs : List Str, PyData.depthAll (xs.map PyData.str) = 0
  | [] => by simp only [List.map_nil, PyData.depthAll]
  | x :: xs => by simp only [List.map_cons, PyData.depthAll, PyData.depth, depth_strs xs, Nat.max_self]
theorem bulk_strs : ∀ {xs : List Str} {n : Nat}, (∀ x ∈ xs, x.length ≤ n) → PyData.bulkAll (xs.map PyData.str) ≤ (n + 1) * xs.length
  | [], _, _ => by simp only [List.map_nil, PyData.bulkAll, Nat.zero_le]
  | x :: xs, n, h => by
    have h1 : x.cps.size ≤ n := h x (List.mem_cons_self ..)
    have h2 := bulk_strs (xs := xs) (n := n) fun y hy => h y (List.mem_cons_of_mem _ hy)
    simp only [List.map_cons, PyData.bulkAll, PyData.bulk, List.length_cons, Nat.mul_succ]
    omega
theorem eqv_nil (ds : List PyData) : PyData.eqv (.list ds) (.list []) = ds.isEmpty := by
  cases ds <;> simp [PyData.eqv, PyData.eqvAll]
mutual
theorem eqv_self : ∀ d : PyData, okD d = true → PyData.eqv d d = true
  | .none, _ => by simp only [PyData.eqv]
  | .bool b, _ => by simp [PyData.eqv]
  | .int _, _ => by simp [PyData.eqv]
  | .str x, h => by simp [PyData.eqv]
  | .list xs, h => by simpa only [PyData.eqv] using eqv_selfAll xs (by simpa only [okD] using h)
  | .tuple xs, h => by simpa only [PyData.eqv] using eqv_selfAll xs (by simpa only [okD] using h)
  | .dict _, h => by simp [okD] at h
theorem eqv_selfAll : ∀ ds : List PyData, okAll ds = true → PyData.eqvAll ds ds = true
  | [], _ => by simp only [PyData.eqvAll]
  | d :: ds, h => by
    obtain ⟨h1, h2⟩ := Bool.and_eq_true_iff.mp (show (okD d && okAll ds) = true by simpa only [okAll] using h)
    simp only [PyData.eqvAll, eqv_self d h1, eqv_selfAll ds h2, Bool.and_self]
end
theorem good_strs {xs : List Str} {n : Nat} (h1 : ∀ x ∈ xs, asc x = true) (h2 : ∀ x ∈ xs, x.length ≤ n) (h3 : (n + 1) * xs.length ≤ 2 ^ 20) : Good (.list (xs.map PyData.str)) where
  ok := by simpa only [okD] using ok_strs h1
  dp := by simp only [PyData.depth, depth_strs]; omega
  bk := by simp only [PyData.bulk]; exact Nat.le_trans (bulk_strs h2) h3
end Sw
namespace Sw
open PySem PySem.Spec PyProof.Rows L2
/-! ### beginnings and rests of texts -/
def mkS (l : List Nat) : Str := ⟨l.toArray⟩
def tkS (z : Str) (n : Nat) : Str := mkS (z.cps.toList.take n)
def drS (z : Str) (n : Nat) : Str := mkS (z.cps.toList.drop n)
theorem mkS_codes (l : List Nat) : (mkS l).cps.toList = l := rfl
theorem mkS_self (z : Str) : mkS z.cps.toList = z := by cases z; rfl
theorem mkS_len (l : List Nat) : (mkS l).length = l.length := rfl
theorem codes_len (z : Str) : z.cps.toList.length = z.length := Array.length_toList
theorem mkS_inj {a b : Str} (h : a.cps.toList = b.cps.toList) : a = b := by rw [← mkS_self a, ← mkS_self b, h]
theorem cut_head {z : Str} {n : Nat} (h : n ≤ z.length) : cutS z none (some (n : Int)) = tkS z n := by
  unfold cutS tkS mkS
  rw [HT.sIx_none, HT.sIx_nat, Nat.min_eq_left h, List.drop_zero, Nat.sub_zero]
theorem cut_tail {z : Str} {n : Nat} (h : n ≤ z.length) : cutS z (some (n : Int)) none = drS z n := by
  unfold cutS drS mkS
  rw [HT.sIx_none, HT.sIx_nat, Nat.min_eq_left h, List.take_of_length_le (by rw [List.length_drop, codes_len]; exact Nat.le_refl _)]
theorem item_at {z : Str} {n : Nat} (h : n < z.length) : atI z.cps.toList (n : Int) = some (z.cps.toList[n]'(by rw [codes_len]; exact h)) := atI_nat (List.getElem?_eq_getElem (by rw [codes_len]; exact h))
theorem asc_mk {l : List Nat} (h : ∀ c ∈ l, c < 128) : asc (mkS l) = true := List.all_eq_true.mpr fun c hc => decide_eq_true (h c hc)
theorem asc_tk {z : Str} (h : asc z = true) (n : Nat) : asc (tkS z n) = true := asc_mk fun c hc => asc_lt h c (List.mem_of_mem_take hc)
theorem asc_dr {z : Str} (h : asc z = true) (n : Nat) : asc (drS z n) = true := asc_mk fun c hc => asc_lt h c (List.mem_of_mem_drop hc)
theorem tk_len (z : Str) (n : Nat) : (tkS z n).length ≤ z.length := by
  show (z.cps.toList.take n).length ≤ _
  rw [List.length_take, codes_len]; omega
theorem dr_len (z : Str) (n : Nat) : (drS z n).length ≤ z.length := by
  show (z.cps.toList.drop n).length ≤ _
  rw [List.length_drop, codes_len]; omega
theorem line_big : (1000000 : Nat) ≤ sizeLine := by decide
end Sw
namespace Sw
open PySem PySem.Spec PyProof.Rows L2
/-! ### text * int, with its signs -/
theorem foldl_in (a : Array Nat) : ∀ (k : Nat) (b : Array Nat) (c : Nat), c ∈ ((List.replicate k a).foldl (· ++ ·) b).toList → c ∈ b.toList ∨ c ∈ a.toList
  | 0, b, c, h => .inl (by simpa using h)
  | k + 1, b, c, h => by
    rw [List.replicate_succ, List.foldl_cons] at h
    rcases foldl_in a k (b ++ a) c h with h | h
    · rw [Array.toList_append] at h
      exact List.mem_append.mp h
    · exact .inr h
section
variable {X : Cx}
theorem op_mulT : OpR X (binaryOp .Mult) (fun x y H Q => ∃ (z : Str) (k : Int), x = .str z ∧ y = .int k ∧ 2 ≤ k ∧ k ≤ 1000 ∧ 1 ≤ z.length ∧ z.length ≤ 1000 ∧ ∀ u : Str, u.length = k.toNat * z.length → (∀ c ∈ u.cps.toList, c ∈ z.cps.toList) → Q (.str u) H) := by
  intro pins s σ H x y v u Q I rx ry h
  obtain ⟨z, k, rfl, rfl, h1, h2, h3, h4, q⟩ := h
  obtain ⟨t, rfl⟩ := rx
  obtain ⟨t', rfl⟩ := ry
  have hk : z.length * k.toNat ≤ 1000000 := by
    have : k.toNat ≤ 1000 := by omega
    calc z.length * k.toNat ≤ 1000 * 1000 := Nat.mul_le_mul h4 this
      _ = 1000000 := rfl
  have big : (1000000 : Nat) ≤ sizeLine := line_big
  have e0 : (k == 1 || z.length == 0) = false := by
    rw [Bool.or_eq_false_iff]
    exact ⟨beq_eq_false_iff_ne.mpr (by omega), beq_eq_false_iff_ne.mpr (by omega)⟩
  refine P.mul_str ?_ (fun _ _ => ?_) (fun _ _ => ?_) ?_
  · have a1 : ¬ k < -(2 ^ 63 : Int) := by omega
    have a2 : ¬ k ≥ 2 ^ 63 := by omega
    rw [decide_eq_false a1, decide_eq_false a2]; rfl
  · have b1 : (1000 : Int) ≤ (2 ^ 63 - 1) / k := by
      rw [Int.le_ediv_iff_mul_le (by omega)]
      have : 1000 * k ≤ 1000000 := by omega
      omega
    omega
  · unfold Builtin.Str.tooLong
    simp only [decide_eq_false_iff_not]
    omega
  · rw [if_neg (show ¬ k < 1 by omega), e0]
    simp only [Bool.false_eq_true, if_false]
    have hlen : (⟨(List.replicate k.toNat z.cps).foldl (· ++ ·) #[]⟩ : Str).length = k.toNat * z.length := by
      show ((List.replicate k.toNat z.cps).foldl (· ++ ·) #[]).size = _
      rw [foldl_cat]
      show 0 + k.toNat * z.cps.size = k.toNat * z.cps.size
      omega
    refine ⟨?_, .str _, H, I.tok _, ⟨_, rfl⟩, q _ hlen fun c hc => ?_⟩
    · rw [hlen, Nat.mul_comm]; omega
    · rcases foldl_in z.cps k.toNat #[] c hc with h | h
      · cases h
      · exact h
end
/-! ### what stays -/
theorem seqT_same {K : PySem.W.Frag} {H H' : Hp} {a : Addr} {xs : List V} (e : Same H H') (h : SqT K H a xs) : SqT K H' a xs := by
  rcases h with (h | ⟨o, h⟩) | h
  · exact .inl (.inl (e _ _ h))
  · exact .inl (.inr ⟨o, e _ _ h⟩)
  · exact .inr h
mutual
theorem dp_same {K : PySem.W.Frag} {H H' : Hp} (e : Same H H') : ∀ (d : PyData) (v : V), Dp K H v d → Dp K H' v d
  | .none, _, h => by cases h; exact .non
  | .bool _, _, h => by cases h; exact .bl _
  | .int _, _, h => by cases h; exact .int _
  | .str _, _, h => by cases h; exact .str _
  | .list ds, _, h => by
    cases h with
    | lst h1 h2 => exact .lst (e.seq h1) (dps_same e ds _ h2)
  | .tuple ds, _, h => by
    cases h with
    | tup h1 h2 => exact .tup (seqT_same e h1) (dps_same e ds _ h2)
  | .dict _, _, h => by cases h
theorem dps_same {K : PySem.W.Frag} {H H' : Hp} (e : Same H H') : ∀ (ds : List PyData) (vs : List V), DpAll K H vs ds → DpAll K H' vs ds
  | [], _, h => by cases h; exact .nil
  | d :: ds, _, h => by
    cases h with
    | cons h1 h2 => exact .cons (dp_same e d _ h1) (dps_same e ds _ h2)
end
/-- the repr of a value is t -/
inductive Rv (K : PySem.W.Frag) (H : Hp) : V → Str → Prop
  | data {x : V} {d : PyData} (h : Dp K H x d) (s : d.showable = true) (dp : d.depth ≤ 60) (z : d.shown.length ≤ sizeLine) : Rv K H x d.shown
  | dk {a : Addr} (h : H a = some (.dK [])) : Rv K H (.ref a) (PyData.shown (.dict []))
theorem Rv.same {K : PySem.W.Frag} {H H' : Hp} {x : V} {t : Str} (e : Same H H') (h : Rv K H x t) : Rv K H' x t := by
  cases h with
  | data h s dp z => exact .data (dp_same e _ _ h) s dp z
  | dk h => exact .dk (e _ _ h)
theorem Rv.good {K : PySem.W.Frag} {H : Hp} {x : V} {d : PyData} (h : Dp K H x d) (g : Good d) : Rv K H x d.shown :=
  .data h (ok_show d g.ok) g.dp (PyData.shown_fits_bulk (B := 10) (by decide) (by decide) (ok_short d g.ok) g.bk)
theorem call_rv {X : Cx} (hG : X.A.guards = some []) (hu : X.A.units + 64 < cLine) : CallR X (.builtin "repr") (fun xs H Q => ∃ x t, xs = [x] ∧ Rv X.K H x t ∧ Q (.str t) H) := by
  intro pins s σ H xs us Q I r ⟨x, t, e, h, q⟩
  cases h with
  | data h hs dp z => exact call_reprD hG hu pins s σ H xs us Q I r ⟨x, _, e, h, hs, dp, z, q⟩
  | dk h => exact call_repr0 hG hu pins s σ H xs us Q I r ⟨_, e, h, q⟩
/-- a value that is asked: its kind, its repr -/
structure Itm (K : PySem.W.Frag) (H : Hp) (x : V) : Prop where
  kd : Kd K H x
  sm : ∀ z, x = .str z → asc z = true ∧ z.length ≤ 1000
  rv : ∃ t, Rv K H x t
theorem Itm.same {K : PySem.W.Frag} {H H' : Hp} {x : V} (h : Itm K H x) (e : Same H H') : Itm K H' x := ⟨h.kd.same e, h.sm, let ⟨t, r⟩ := h.rv; ⟨t, r.same e⟩⟩
theorem good_str {z : Str} (h : asc z = true) (hl : z.length ≤ 1000) : Good (.str z) where
  ok := by simpa only [okD] using h
  dp := by simp only [PyData.depth]; omega
  bk := by
    simp only [PyData.bulk]
    have e : z.cps.size ≤ 1000 := hl
    omega
theorem good_strsT {xs : List Str} {n : Nat} (h1 : ∀ x ∈ xs, asc x = true) (h2 : ∀ x ∈ xs, x.length ≤ n) (h3 : (n + 1) * xs.length ≤ 2 ^ 20) : Good (.tuple (xs.map PyData.str)) where
  ok := by simpa only [okD] using ok_strs h1
  dp := by simp only [PyData.depth, depth_strs]; omega
  bk := by simp only [PyData.bulk]; exact Nat.le_trans (bulk_strs h2) h3
section
variable {K : PySem.W.Frag} {H : Hp}
theorem itm_str {z : Str} (h : asc z = true) (hl : z.length ≤ 1000) : Itm K H (.str z) := ⟨.str z (by omega), fun y e => by cases e; exact ⟨h, hl⟩, _, .good (.str z) (good_str h hl)⟩
theorem itm_non : Itm K H .non := ⟨.non, (fun y e => nomatch e), _, .good .non ⟨by decide, by decide, by decide⟩⟩
theorem itm_bl (b : Bool) : Itm K H (.bl b) := ⟨.bl b, (fun y e => nomatch e), _, .good (.bl b) ⟨by simp only [okD], by simp only [PyData.depth]; omega, by cases b <;> decide⟩⟩
theorem itm_int {i : Int} {k : Nat} (hk : 0 < k) (hk2 : k ≤ 1000) (h : i.natAbs < 10 ^ k) (hs : (PyData.int i).showable = true) : Itm K H (.int i) :=
  ⟨.int i, (fun y e => nomatch e), _, .data (.int i) hs (by simp only [PyData.depth]; omega) (by
    have := int_text_length_le10 hk h
    have := line_big
    simp only [PyData.shown]
    rw [PySem.ofString_length]
    omega)⟩
theorem itm_strs {a : Addr} {xs : List Str} {n : Nat} (ha : H a = some (.lst (xs.map V.str))) (h1 : ∀ x ∈ xs, asc x = true) (h2 : ∀ x ∈ xs, x.length ≤ n) (h3 : (n + 1) * xs.length ≤ 2 ^ 20) : Itm K H (.ref a) :=
  ⟨.lst ha, (fun y e => nomatch e), _, .good (.lst (SqL.of ha) (dp_strs xs)) (good_strs h1 h2 h3)⟩
theorem itm_strsT {a : Addr} {xs : List Str} {n : Nat} (ha : H a = some (.tup (xs.map V.str))) (h1 : ∀ x ∈ xs, asc x = true) (h2 : ∀ x ∈ xs, x.length ≤ n) (h3 : (n + 1) * xs.length ≤ 2 ^ 20) : Itm K H (.ref a) :=
  ⟨.tup ha, (fun y e => nomatch e), _, .good (.tup (SqT.of ha) (dp_strs xs)) (good_strsT h1 h2 h3)⟩
theorem itm_dk {a : Addr} (ha : H a = some (.dK [])) : Itm K H (.ref a) := ⟨.dk ha, (fun y e => nomatch e), _, .dk ha⟩
end
end Sw
namespace K12
open PySem PySem.Spec PyProof.Rows L2 Sw
def top (i : Nat) : Stmt := PySem.Challenge.pw_streamwrights_k12_words_prefixes_delays.main.body.getD i (.Pass ⟨0, 0, 0, 0⟩)
abbrev FnP (K : PySem.W.Frag) (x : Str) (st : Stmt) (f : Addr) (fd : FuncData) : Prop := FunD K x x (defArgs st) (defBody st) (defScope st) [] [] f fd
abbrev sIsWord : Stmt := top 1
abbrev sPrefix : Stmt := top 2
abbrev sDelay : Stmt := top 3
abbrev sDeck : Stmt := top 5
abbrev sDraw : Stmt := top 6
abbrev sPick : Stmt := top 7
abbrev sBit : Stmt := top 8
abbrev sGap : Stmt := top 9
abbrev sLIsWord : Stmt := top 10
abbrev sLPrefix : Stmt := top 11
abbrev sLot : Stmt := top 12
abbrev sSaid : Stmt := top 13
abbrev sTwo : Stmt := top 14
abbrev sRight : Stmt := top 15
abbrev sLaw : Stmt := top 16
section
variable {P : Program} {w : World} {K : PySem.W.Frag} {mg : Str → Option Value} {base : Heap}
/-- a sign from a to z -/
def az (c : Nat) : Bool := decide (97 ≤ c) && decide (c ≤ 122)
def wordV : V → Bool
  | .str z => z.cps.toList.all az
  | _ => false
def spWord (K : PySem.W.Frag) : Sp := fun vs H Q _ => ∃ x, vs = [x] ∧ Kd K H x ∧ ∀ H', Same H H' → Q (.bl (wordV x)) H'
theorem chain_az (c : Nat) : (!decide ((⟨#[c]⟩ : Str).cps.toList < ("a" : Str).cps.toList) && !decide (("z" : Str).cps.toList < (⟨#[c]⟩ : Str).cps.toList)) = az c := by
  have e1 : ("a" : Str).cps.toList = [97] := by decide
  have e2 : ("z" : Str).cps.toList = [122] := by decide
  rw [e1, e2]
  have h1 : ([c] < [97]) ↔ c < 97 := by simp [List.cons_lt_cons_iff]
  have h2 : ([122] < [c]) ↔ 122 < c := by simp [List.cons_lt_cons_iff]
  have e3 : (⟨#[c]⟩ : Str).cps.toList = [c] := rfl
  rw [e3, Bool.eq_iff_iff]
  unfold az
  simp only [Bool.and_eq_true, Bool.not_eq_true', decide_eq_false_iff_not, decide_eq_true_eq, h1, h2]
  omega
theorem scIsWord : FnScope ["thing", "letter"] ["thing"] (defScope sIsWord) := ⟨rfl, rfl, rfl, by decide +kernel, rfl, by decide +kernel, by decide +kernel⟩
theorem ok_isWord {f : Addr} {fd : FuncData} (F : FnP K "is_word" sIsWord f fd) (gI : mg "isinstance" = none) (gS : mg "str" = none) (gA : mg "all" = none) : FnOk P w K mg base CX0 1 f fd ["thing"] (spWord K) := by
  refine F.ok scIsWord (fun vs H Q E h => ?_) (fun cdv A outer s H vs Q E hr h => ?_)
  · obtain ⟨x, rfl, _⟩ := h; rfl
  · obtain ⟨x, rfl, kd, k⟩ := h
    refine ⟨_, PSs.nox (pss_one (ps_ret (pe_and (pe_callB call_isi (by rfl) gI boot_isinstance (pa_cons (pv 0) (pa_cons (pe_bltn (v := .ty "str") (by rfl) gS boot_str rfl) pa_nil)))
      (pe_one (pe_callB (cr_all rfl) (by rfl) gA boot_all (pa_cons (pe_lc (own := [("letter", 1)]) (g := gName 1) (tt := tYes) rfl scIsWord.nd (pi_str (pv 0)) (blkOk_by (N := ["thing", "letter"]) (sc := defScope sIsWord) (by decide +kernel))
        (fun _ _ _ _ _ => pg_name (i := 1) scIsWord.nd rfl (Or.inl rfl)) (fun _ _ _ _ _ => pts_nil) (fun _ _ _ _ _ => pe_chain op_le_str op_le_str pe_str (pv 1) pe_str)) pa_nil)))))), ?_⟩
    obtain ⟨t, ty, kk⟩ := isi_str kd
    have no : isStrV x = false → wordV x = false := fun e => by cases x <;> first | rfl | cases e
    cases e : isStrV x with
    | false =>
      rw [e] at kk
      refine ⟨_, rfl, _, .ty "str", t, _, _, rfl, .ty _, ty, kk, _, rfl, iteF ?_⟩
      have z := k H (Same.refl H)
      rw [no e] at z
      exact z
    | true =>
      rw [e] at kk
      obtain ⟨z, rfl⟩ : ∃ z, x = .str z := by cases x <;> first | exact ⟨_, rfl⟩ | cases e
      have hz : z.cps.size ≤ 1000000 := by cases kd with | str _ h => exact h
      refine ⟨_, rfl, _, .ty "str", t, _, _, rfl, .ty _, ty, kk, _, rfl, iteT ?_⟩
      refine ⟨_, rfl, z, rfl, fun D hD => lc_it walk_str (fun i G => G = upd H D (.lst ((z.cps.toList.take i).map fun c => V.bl (az c)))) rfl (fun _ _ _ _ => True.intro) ?_ ?_⟩
      · rintro i y G G' hi rfl ⟨rfl, c, hc, rfl⟩
        refine ⟨rfl, _, rfl, _, _, rfl, rfl, _, rfl, ?_⟩
        have e1 : z.cps.toList.take (i + 1) = z.cps.toList.take i ++ [c] := by
          rw [List.take_succ, Array.getElem?_toList, hc]; rfl
        have fin : ∀ b : Bool, b = az c → ∃ acc, upd H D (.lst ((z.cps.toList.take i).map fun c => V.bl (az c))) D = some (.lst acc) ∧ acc.length < sizeLine ∧
            upd (upd H D (.lst ((z.cps.toList.take i).map fun c => V.bl (az c)))) D (.lst (acc ++ [.bl b])) = upd H D (.lst ((z.cps.toList.take (i + 1)).map fun c => V.bl (az c))) := by
          rintro b rfl
          refine ⟨_, upd_same, ?_, ?_⟩
          · rw [List.length_map, List.length_take, Array.length_toList]
            have : (sizeLine : Nat) ≥ 16777216 := by decide
            omega
          · rw [upd_upd, e1, List.map_append]; rfl
        have hch := chain_az c
        refine ite2 (fun h1 => ⟨_, _, rfl, rfl, fin _ ?_⟩) (fun h1 => fin _ ?_)
        · rw [← hch, h1, Bool.true_and]
        · rw [← hch, Bool.eq_false_iff.mpr h1, Bool.false_and]
      · rintro G rfl
        have e2 : z.cps.toList.take z.cps.size = z.cps.toList := List.take_of_length_le (by rw [Array.length_toList]; exact Nat.le_refl _)
        rw [e2]
        refine ⟨D, z.cps.toList.map az, rfl, SqL.of (by rw [upd_same, List.map_map]; rfl), ?_⟩
        have e3 : (z.cps.toList.map az).all id = wordV (.str z) := by
          show _ = z.cps.toList.all az
          rw [List.all_map]; rfl
        show Q (.bl ((z.cps.toList.map az).all id)) _
        rw [e3]
        exact k _ fun b o hb => by rw [upd_ne (ne_of_none hb hD)]; exact hb
/-! ### the law's own is_word -/
def alpha : Str := "abcdefghijklmnopqrstuvwxyz"
theorem mem_alpha (c : Nat) : decide (c ∈ alpha.cps.toList) = az c := by
  have e : alpha.cps.toList = [97, 98, 99, 100, 101, 102, 103, 104, 105, 106, 107, 108, 109, 110, 111, 112, 113, 114, 115, 116, 117, 118, 119, 120, 121, 122] := by decide
  rw [e, Bool.eq_iff_iff]
  unfold az
  simp only [decide_eq_true_eq, Bool.and_eq_true, List.mem_cons, List.not_mem_nil, or_false]
  omega
def spLWord (K : PySem.W.Frag) : Sp := fun vs H Q _ => ∃ x, vs = [x] ∧ Kd K H x ∧ (∀ z, x = .str z → asc z = true ∧ z.length ≤ 1000) ∧ ∀ H', Same H H' → Q (.bl (wordV x)) H'
theorem scLWord : FnScope ["_law_it", "_law_sign"] ["_law_it"] (defScope sLIsWord) := ⟨rfl, rfl, rfl, by decide +kernel, rfl, by decide +kernel, by decide +kernel⟩
theorem ok_lWord {f : Addr} {fd : FuncData} (F : FnP K "_law_is_word" sLIsWord f fd) (gI : mg "isinstance" = none) (gS : mg "str" = none) : FnOk P w K mg base CX0 1 f fd ["_law_it"] (spLWord K) := by
  refine F.ok scLWord (fun vs H Q E h => ?_) (fun cdv A outer s H vs Q E hr h => ?_)
  · obtain ⟨x, rfl, _⟩ := h; rfl
  · obtain ⟨x, rfl, kd, sm, k⟩ := h
    refine ⟨_, PSs.nox (pss_one (ps_ret (pe_and (pe_callB call_isi (by rfl) gI boot_isinstance (pa_cons (pv 0) (pa_cons (pe_bltn (v := .ty "str") (by rfl) gS boot_str rfl) pa_nil)))
      (pe_one (pe_cmpR (op_eqG hr.units) (pe_lc (own := [("_law_sign", 1)]) (g := gName 1) rfl scLWord.nd (pi_str (pv 0)) (blkOk_by (N := ["_law_it", "_law_sign"]) (sc := defScope sLIsWord) (by decide +kernel))
        (fun _ _ _ _ _ => pg_name (i := 1) scLWord.nd rfl (Or.inl rfl)) (fun _ _ _ _ _ => pts_one (pt_cmpR op_notIn_sign (pv 1) pe_str rfl)) (fun _ _ _ _ _ => pv 1)) (pe_lst pa_nil) (nomark _)))))), ?_⟩
    obtain ⟨t, ty, kk⟩ := isi_str kd
    have no : isStrV x = false → wordV x = false := fun e => by cases x <;> first | rfl | cases e
    cases e : isStrV x with
    | false =>
      rw [e] at kk
      refine ⟨_, rfl, _, .ty "str", t, _, _, rfl, .ty _, ty, kk, _, rfl, iteF ?_⟩
      have z := k H (Same.refl H)
      rw [no e] at z
      exact z
    | true =>
      rw [e] at kk
      obtain ⟨z, rfl⟩ : ∃ z, x = .str z := by cases x <;> first | exact ⟨_, rfl⟩ | cases e
      obtain ⟨ha, hz⟩ := sm z rfl
      have hz : z.cps.size ≤ 1000 := hz
      refine ⟨_, rfl, _, .ty "str", t, _, _, rfl, .ty _, ty, kk, _, rfl, iteT ?_⟩
      refine ⟨_, rfl, z, rfl, fun D hD => lc_it walk_str (fun i G => G = upd H D (.lst (((z.cps.toList.take i).filter fun c => !az c).map fun c => V.str ⟨#[c]⟩))) rfl (fun _ _ _ _ => True.intro) ?_ ?_⟩
      · rintro i y G G' hi rfl ⟨rfl, c, hc, rfl⟩
        have e1 : z.cps.toList.take (i + 1) = z.cps.toList.take i ++ [c] := by
          rw [List.take_succ, Array.getElem?_toList, hc]; rfl
        refine ⟨rfl, _, rfl, c, alpha, rfl, rfl, _, rfl, ?_⟩
        rw [mem_alpha]
        refine ite2 (fun h1 => ⟨_, rfl, _, upd_same, ?_, ?_⟩) (fun h1 => ?_)
        · have l1 := List.length_filter_le (fun c => !az c) (z.cps.toList.take i)
          rw [List.length_take] at l1
          have lz : z.cps.toList.length = z.cps.size := Array.length_toList
          rw [List.length_map]
          have : (sizeLine : Nat) ≥ 16777216 := by decide
          omega
        · rw [upd_upd, e1, List.filter_append, List.map_append]
          simp only [List.filter_cons, h1, if_true, List.filter_nil, List.map_cons, List.map_nil]
        · rw [e1, List.filter_append]
          simp only [List.filter_cons, h1, Bool.false_eq_true, if_false, List.filter_nil, List.append_nil]
      · rintro G rfl
        have e2 : z.cps.toList.take z.cps.size = z.cps.toList := List.take_of_length_le (by rw [Array.length_toList]; exact Nat.le_refl _)
        rw [e2]
        refine ⟨by show 0 ≤ sizeLine; omega, fun p hp => ?_⟩
        have es : ((z.cps.toList.filter fun c => !az c).map fun c => V.str ⟨#[c]⟩) = (((z.cps.toList.filter fun c => !az c).map fun c => (⟨#[c]⟩ : Str)).map V.str) := by rw [List.map_map]; rfl
        have hDp : D ≠ p := ne_of_none upd_same hp
        refine ⟨.list (((z.cps.toList.filter fun c => !az c).map fun c => (⟨#[c]⟩ : Str)).map PyData.str), .list [], .lst (SqL.of (by rw [upd_ne hDp, upd_same, es])) (dp_strs _), .lst (SqL.of upd_same) .nil, good_strs (n := 1) ?_ ?_ ?_, ⟨by decide, by decide, by decide⟩, ?_⟩
        · intro y hy
          obtain ⟨c, hc, rfl⟩ := List.mem_map.mp hy
          have := asc_lt ha c (List.mem_filter.mp hc).1
          simp [asc, this]
        · intro y hy
          obtain ⟨c, hc, rfl⟩ := List.mem_map.mp hy
          exact Nat.le_refl 1
        · rw [List.length_map]
          have l1 := List.length_filter_le (fun c => !az c) z.cps.toList
          have lz : z.cps.toList.length = z.cps.size := Array.length_toList
          omega
        · have e3 : PyData.eqv (.list (((z.cps.toList.filter fun c => !az c).map fun c => (⟨#[c]⟩ : Str)).map PyData.str)) (.list []) = wordV (.str z) := by
            rw [eqv_nil]
            show _ = z.cps.toList.all az
            rw [Bool.eq_iff_iff, List.isEmpty_iff, List.map_eq_nil_iff, List.map_eq_nil_iff, List.filter_eq_nil_iff, List.all_eq_true]
            simp
          rw [e3]
          exact k _ fun b o hb => by rw [upd_ne (ne_of_none (show upd H D _ b = some o by rw [upd_ne (ne_of_none hb hD)]; exact hb) hp), upd_ne (ne_of_none hb hD)]; exact hb
end
end K12
namespace K12
open PySem PySem.Spec PyProof.Rows L2 Sw
/-- how far two texts are alike -/
def lc (a b : Str) : Nat := lcp a.cps.toList b.cps.toList
theorem lc_l (a b : Str) : lc a b ≤ a.length := by rw [← codes_len]; exact lcp_le_left _ _
theorem lc_r (a b : Str) : lc a b ≤ b.length := by rw [← codes_len]; exact lcp_le_right _ _
section
variable {P : Program} {w : World} {K : PySem.W.Frag} {mg : Str → Option Value} {base : Heap}
def spGap : Sp := fun vs H Q _ => ∃ a b : Str, vs = [.str a, .str b] ∧ a.length ≤ 1000 ∧ b.length ≤ 1000 ∧ ∀ p, H p = none → Q (.ref p) (upd H p (.tup [.str (drS a (lc a b)), .str (drS b (lc a b))]))
theorem scGap : FnScope ["_law_x", "_law_y", "_law_n"] ["_law_x", "_law_y"] (defScope sGap) := ⟨rfl, rfl, rfl, by decide +kernel, rfl, by decide +kernel, by decide +kernel⟩
theorem ok_gap {f : Addr} {fd : FuncData} (F : FnP K "_law_gap" sGap f fd) (gM : mg "min" = none) (gL : mg "len" = none) : FnOk P w K mg base CX0 1 f fd ["_law_x", "_law_y"] spGap := by
  refine F.ok scGap (fun vs H Q E h => ?_) (fun cdv A outer s H vs Q E hr h => ?_)
  · obtain ⟨a, b, rfl, _⟩ := h; rfl
  · obtain ⟨a, b, rfl, la, lb, k⟩ := h
    have lz := line_big
    refine ⟨_, PSs.nox (pss_cons (ps_set (i := 2) scGap.nd rfl (Or.inl rfl) pe_int)
      (pss_cons (ps_while PassesOwn.never (PW.pt (pw_and (pt_cmpR op_lt (pv 2) (pe_callB (call_min2 rfl) (by rfl) gM boot_min (pa_cons (pe_callB call_len_str (by rfl) gL boot_len (pa_cons (pv 0) pa_nil)) (pa_cons (pe_callB call_len_str (by rfl) gL boot_len (pa_cons (pv 1) pa_nil)) pa_nil))) (nomark _))
          (pw_and1 (pt_cmpR op_eq (pe_ix ix_str (pv 0) (pv 2) (fun _ _ => rfl)) (pe_ix ix_str (pv 1) (pv 2) (fun _ _ => rfl)) (nomark _)))))
        (pss_one (ps_set (i := 2) scGap.nd rfl (Or.inl rfl) (pe_op op_add (pv 2) pe_int))))
      (pss_one (ps_ret (pe_tup (pa_cons (pe_slice sl_str (pv 0) (po_some (pv 2)) po_none) (pa_cons (pe_slice sl_str (pv 1) (po_some (pv 2)) po_none) pa_nil))))))), ?_⟩
    refine ⟨fun m σ G => ∃ n : Nat, σ = [some (.str a), some (.str b), some (.int n)] ∧ G = H ∧ n ≤ lc a b ∧ m = lc a b - n, ⟨_, 0, rfl, rfl, Nat.zero_le _, rfl⟩, ?_⟩
    rintro m σ G ⟨n, rfl, rfl, hn, rfl⟩
    refine ⟨_, rfl, _, rfl, _, rfl, by omega, _, rfl, _, rfl, by omega, _, _, rfl, _, _, rfl, rfl, _, rfl, ?_⟩
    have h1 := lc_l a b
    have h2 := lc_r a b
    have hmin : (decide ((n : Int) < (if (b.length : Int) < (a.length : Int) then (b.length : Int) else (a.length : Int)))) = decide (n < a.length ∧ n < b.length) := by
      rw [decide_eq_decide]; split <;> omega
    rw [hmin]
    by_cases h : n < a.length ∧ n < b.length
    · rw [decide_eq_true h]
      have step := lcp_step a.cps.toList b.cps.toList n (by rw [codes_len]; exact h.1) (by rw [codes_len]; exact h.2) hn
      refine iteT ⟨_, rfl, _, rfl, a, n, _, rfl, rfl, by omega, item_at h.1, _, rfl, _, rfl, b, n, _, rfl, rfl, by omega, item_at h.2, rfl, _, rfl, ?_⟩
      by_cases e : a.cps.toList[n]'(by rw [codes_len]; exact h.1) = b.cps.toList[n]'(by rw [codes_len]; exact h.2)
      · have lt : n < lc a b := step.mpr (by rw [List.getElem?_eq_getElem (by rw [codes_len]; exact h.1), List.getElem?_eq_getElem (by rw [codes_len]; exact h.2), e])
        rw [e, decide_eq_true rfl]
        refine iteT ⟨fun τ G' => τ = [some (.str a), some (.str b), some (.int ((n + 1 : Nat) : Int))] ∧ G' = G, ?_, _, rfl, _, _, rfl, rfl, rfl, rfl⟩
        rintro τ G' ⟨rfl, rfl⟩
        exact ⟨lc a b - (n + 1), by omega, n + 1, rfl, rfl, lt, rfl⟩
      · have ne : ¬ n < lc a b := fun lt => e (by
          have z := step.mp lt
          rw [List.getElem?_eq_getElem (by rw [codes_len]; exact h.1), List.getElem?_eq_getElem (by rw [codes_len]; exact h.2)] at z
          exact Option.some.inj z)
        have en : n = lc a b := by omega
        rw [decide_eq_false (fun z => e (by injection z with z; injection z with z; simpa using z))]
        refine iteF ⟨_, rfl, _, rfl, _, rfl, a, rfl, by omega, _, rfl, _, rfl, _, rfl, b, rfl, by omega, by show 2 ≤ sizeLine; decide, fun p hp => ?_⟩
        rw [cut_tail (by omega), cut_tail (by omega), en]
        exact k p hp
    · have en : n = lc a b := by omega
      rw [decide_eq_false h]
      refine iteF (iteF ⟨_, rfl, _, rfl, _, rfl, a, rfl, by omega, _, rfl, _, rfl, _, rfl, b, rfl, by omega, by show 2 ≤ sizeLine; decide, fun p hp => ?_⟩)
      rw [cut_tail (by omega), cut_tail (by omega), en]
      exact k p hp
end
end K12
namespace K12
open PySem PySem.Spec PyProof.Rows L2 Sw
theorem tri : ∀ a b : List Nat, a < b ∨ a = b ∨ b < a
  | [], [] => .inr (.inl rfl)
  | [], _ :: _ => .inl (List.nil_lt_cons ..)
  | _ :: _, [] => .inr (.inr (List.nil_lt_cons ..))
  | a :: as, b :: bs => by
    rw [List.cons_lt_cons_iff, List.cons_lt_cons_iff]
    rcases Nat.lt_trichotomy a b with h | h | h
    · exact .inl (.inl h)
    · subst h
      rcases tri as bs with q | q | q
      · exact .inl (.inr ⟨rfl, q⟩)
      · exact .inr (.inl (by rw [q]))
      · exact .inr (.inr (.inr ⟨rfl, q⟩))
    · exact .inr (.inr (.inl h))
theorem lt_mid {z m x : List Nat} (h1 : z < m) (h2 : ¬ x < m) : z < x := by
  rcases tri z x with q | q | q
  · exact q
  · rw [q] at h1; exact absurd h1 h2
  · exact absurd (List.lt_trans q h1) h2
theorem lt_mid2 {m z x : List Nat} (h1 : m < z) (h2 : ¬ x < z) : m < x := lt_mid h1 h2
theorem min_spec : ∀ (xs : List Str) (x : Str), (PySem.W.minOf x xs = x ∨ PySem.W.minOf x xs ∈ xs) ∧ (¬ x.cps.toList < (PySem.W.minOf x xs).cps.toList) ∧ ∀ y ∈ xs, ¬ y.cps.toList < (PySem.W.minOf x xs).cps.toList
  | [], x => ⟨.inl rfl, List.lt_irrefl _, fun y hy => by cases hy⟩
  | z :: xs, x => by
    have e : PySem.W.minOf x (z :: xs) = PySem.W.minOf (if decide (z.cps.toList < x.cps.toList) = true then z else x) xs := rfl
    by_cases h : z.cps.toList < x.cps.toList
    · rw [e, if_pos (decide_eq_true h)]
      obtain ⟨h1, h2, h3⟩ := min_spec xs z
      refine ⟨.inr ?_, fun q => h2 (List.lt_trans h q), fun y hy => ?_⟩
      · rcases h1 with h1 | h1
        · rw [h1]; exact List.mem_cons_self ..
        · exact List.mem_cons_of_mem _ h1
      · rcases List.mem_cons.mp hy with rfl | hy
        · exact h2
        · exact h3 y hy
    · rw [e, if_neg (by simpa using h)]
      obtain ⟨h1, h2, h3⟩ := min_spec xs x
      refine ⟨h1.imp id (List.mem_cons_of_mem _), h2, fun y hy => ?_⟩
      rcases List.mem_cons.mp hy with rfl | hy
      · exact fun q => h (lt_mid q h2)
      · exact h3 y hy
theorem max_spec : ∀ (xs : List Str) (x : Str), (PySem.W.maxOf x xs = x ∨ PySem.W.maxOf x xs ∈ xs) ∧ (¬ (PySem.W.maxOf x xs).cps.toList < x.cps.toList) ∧ ∀ y ∈ xs, ¬ (PySem.W.maxOf x xs).cps.toList < y.cps.toList
  | [], x => ⟨.inl rfl, List.lt_irrefl _, fun y hy => by cases hy⟩
  | z :: xs, x => by
    have e : PySem.W.maxOf x (z :: xs) = PySem.W.maxOf (if decide (x.cps.toList < z.cps.toList) = true then z else x) xs := rfl
    by_cases h : x.cps.toList < z.cps.toList
    · rw [e, if_pos (decide_eq_true h)]
      obtain ⟨h1, h2, h3⟩ := max_spec xs z
      refine ⟨.inr ?_, fun q => h2 (List.lt_trans q h), fun y hy => ?_⟩
      · rcases h1 with h1 | h1
        · rw [h1]; exact List.mem_cons_self ..
        · exact List.mem_cons_of_mem _ h1
      · rcases List.mem_cons.mp hy with rfl | hy
        · exact h2
        · exact h3 y hy
    · rw [e, if_neg (by simpa using h)]
      obtain ⟨h1, h2, h3⟩ := max_spec xs x
      refine ⟨h1.imp id (List.mem_cons_of_mem _), h2, fun y hy => ?_⟩
      rcases List.mem_cons.mp hy with rfl | hy
      · exact fun q => h2 (lt_mid q h)
      · exact h3 y hy
/-- the codes of texts -/
abbrev cod (z : Str) : List Nat := z.cps.toList
theorem isPre_min (x : Str) (xs : List Str) : IsPre ((x :: xs).map cod) ((PySem.W.minOf x xs).cps.toList.take (lc (PySem.W.minOf x xs) (PySem.W.maxOf x xs))) := by
  obtain ⟨a1, a2, a3⟩ := min_spec xs x
  obtain ⟨b1, b2, b3⟩ := max_spec xs x
  refine isPre_ends ?_ ?_ (fun w hw => ?_) (fun w hw => ?_)
  · exact List.mem_map.mpr ⟨_, List.mem_cons.mpr a1, rfl⟩
  · exact List.mem_map.mpr ⟨_, List.mem_cons.mpr b1, rfl⟩
  · obtain ⟨y, hy, rfl⟩ := List.mem_map.mp hw
    rcases List.mem_cons.mp hy with rfl | hy
    · exact a2
    · exact a3 y hy
  · obtain ⟨y, hy, rfl⟩ := List.mem_map.mp hw
    rcases List.mem_cons.mp hy with rfl | hy
    · exact b2
    · exact b3 y hy
section
variable {P : Program} {w : World} {K : PySem.W.Frag} {mg : Str → Option Value} {base : Heap}
/-- the promise behind the binding: the words are a tuple -/
def spPre0 : Sp := fun vs H Q _ => ∃ (p : Addr) (x : Str) (xs : List Str), vs = [.ref p] ∧ H p = some (.tup ((x :: xs).map V.str)) ∧ (∀ y ∈ x :: xs, y.length ≤ 1000) ∧ ∀ q, IsPre ((x :: xs).map cod) q → Q (.str (mkS q)) H
def spPre : Sp := fun vs H Q _ => ∃ (x : Str) (xs : List Str), vs = (x :: xs).map V.str ∧ xs.length ≤ 1000 ∧ (∀ y ∈ x :: xs, y.length ≤ 1000) ∧ ∀ q p, IsPre ((x :: xs).map cod) q → H p = none → Q (.str (mkS q)) (upd H p (.tup vs))
theorem scPre : FnScope ["words", "low", "high", "length"] (([] : List Str) ++ [("words" : Str)]) (defScope sPrefix) := ⟨rfl, rfl, rfl, by decide +kernel, rfl, by decide +kernel, by decide +kernel⟩
theorem ok_pre {f : Addr} {fd : FuncData} (F : FnP K "common_prefix" sPrefix f fd) (gM : mg "min" = none) (gX : mg "max" = none) (gL : mg "len" = none) : FnR P w K mg base CX0 1 f spPre := by
  obtain ⟨oc, od, dV, kV, doc, pm, an, cdv, ct, osl, rfl, lk, hcd, hD, _⟩ := F.ex
  have R : FnR P w K mg base CX0 (0 + 1) f _ := StX.fn_star (P := P) (w := w) (mg := mg) (base := base) (sp := spPre0) (ps := []) (pv := "words") lk hcd scPre StX.cxUp_none
    (fun us rest hl => by
      obtain rfl : us = [] := List.eq_nil_of_length_eq_zero hl
      rcases hD with ⟨_, rfl⟩ | ⟨e, _⟩
      · cases rest <;> rfl
      · exact absurd rfl e)
    (fun A outer s H vs Q E hr h => by
      obtain ⟨p, x, xs, rfl, hp, hl, k⟩ := h
      have lz := line_big
      refine ⟨_, PSs.nox (pss_cons (ps_set (i := 1) scPre.nd rfl (Or.inl rfl) (pe_callB (cr_minS rfl hr.units) (by rfl) gM boot_min (pa_cons (pv 0) pa_nil)))
        (pss_cons (ps_set (i := 2) scPre.nd rfl (Or.inl rfl) (pe_callB (cr_maxS rfl hr.units) (by rfl) gX boot_max (pa_cons (pv 0) pa_nil)))
        (pss_cons (ps_set (i := 3) scPre.nd rfl (Or.inl rfl) pe_int)
        (pss_cons (ps_while PassesOwn.never (PW.pt (pw_and (pt_cmpR op_lt (pv 3) (pe_callB call_len_str (by rfl) gL boot_len (pa_cons (pv 1) pa_nil)) (nomark _))
            (pw_and1 (pt_cmpR op_eq (pe_ix ix_str (pv 1) (pv 3) (fun _ _ => rfl)) (pe_ix ix_str (pv 2) (pv 3) (fun _ _ => rfl)) (nomark _)))))
          (pss_one (ps_aug (i := 3) scPre.nd rfl (Or.inl rfl) pe_int ip_add)))
        (pss_one (ps_ret (pe_slice sl_str (pv 1) po_none (po_some (pv 3))))))))), ?_⟩
      obtain ⟨a1, a2, a3⟩ := min_spec xs x
      obtain ⟨b1, b2, b3⟩ := max_spec xs x
      have pre := isPre_min x xs
      have hab : ¬ (PySem.W.maxOf x xs).cps.toList < (PySem.W.minOf x xs).cps.toList := by
        rcases a1 with e | e
        · rw [e]; exact b2
        · exact b3 _ e
      have la : (PySem.W.minOf x xs).length ≤ 1000 := hl _ (List.mem_cons.mpr a1)
      have lb : (PySem.W.maxOf x xs).length ≤ 1000 := hl _ (List.mem_cons.mpr b1)
      refine ⟨_, rfl, p, x, xs, rfl, SqT.of hp, _, rfl, p, x, xs, rfl, SqT.of hp, ?_⟩
      generalize PySem.W.minOf x xs = a at *
      generalize PySem.W.maxOf x xs = b at *
      have h1 := lc_l a b
      have h2 := lc_r a b
      refine ⟨fun m σ G => ∃ n : Nat, σ = [some (.ref p), some (.str a), some (.str b), some (.int n)] ∧ G = H ∧ n ≤ lc a b ∧ m = lc a b - n, ⟨_, 0, rfl, rfl, Nat.zero_le _, rfl⟩, ?_⟩
      rintro m σ G ⟨n, rfl, rfl, hn, rfl⟩
      have hlen : (decide ((n : Int) < (a.length : Int))) = decide (n < a.length) := by rw [decide_eq_decide]; omega
      refine ⟨_, rfl, _, rfl, a, rfl, by omega, _, _, rfl, rfl, _, rfl, ?_⟩
      rw [hlen]
      by_cases h : n < a.length
      · have hb : n < b.length := by
          have := long_hi a.cps.toList b.cps.toList n hab (by rw [codes_len]; exact h) hn
          rw [codes_len] at this
          exact this
        have step := lcp_step a.cps.toList b.cps.toList n (by rw [codes_len]; exact h) (by rw [codes_len]; exact hb) hn
        rw [decide_eq_true h]
        refine iteT ⟨_, rfl, _, rfl, a, n, _, rfl, rfl, by omega, item_at h, _, rfl, _, rfl, b, n, _, rfl, rfl, by omega, item_at hb, rfl, _, rfl, ?_⟩
        by_cases e : a.cps.toList[n]'(by rw [codes_len]; exact h) = b.cps.toList[n]'(by rw [codes_len]; exact hb)
        · have lt : n < lc a b := step.mpr (by rw [List.getElem?_eq_getElem (by rw [codes_len]; exact h), List.getElem?_eq_getElem (by rw [codes_len]; exact hb), e])
          rw [e, decide_eq_true rfl]
          refine iteT ⟨fun τ G' => τ = [some (.ref p), some (.str a), some (.str b), some (.int ((n + 1 : Nat) : Int))] ∧ G' = G, ?_, _, rfl, _, _, rfl, rfl, rfl, rfl⟩
          rintro τ G' ⟨rfl, rfl⟩
          exact ⟨lc a b - (n + 1), by omega, n + 1, rfl, rfl, lt, rfl⟩
        · have ne : ¬ n < lc a b := fun lt => e (by
            have z := step.mp lt
            rw [List.getElem?_eq_getElem (by rw [codes_len]; exact h), List.getElem?_eq_getElem (by rw [codes_len]; exact hb)] at z
            exact Option.some.inj z)
          have en : n = lc a b := by omega
          rw [decide_eq_false (fun z => e (by injection z with z; injection z with z; simpa using z))]
          refine iteF ⟨_, rfl, _, rfl, _, rfl, a, rfl, by omega, ?_⟩
          rw [cut_head (by omega), en]
          exact k _ pre
      · have en : n = lc a b := by omega
        rw [decide_eq_false h]
        refine iteF (iteF ⟨_, rfl, _, rfl, _, rfl, a, rfl, by omega, ?_⟩)
        rw [cut_head (by omega), en]
        exact k _ pre)
  refine R.imp fun vs H Q E h => ?_
  obtain ⟨x, xs, rfl, hn, hl, k⟩ := h
  have lz := line_big
  refine ⟨[], (x :: xs).map V.str, rfl, rfl, by rw [List.length_map, List.length_cons]; omega, fun p hp => ⟨p, x, xs, rfl, upd_same, hl, fun q hq => k q p hq hp⟩⟩
end
end K12
namespace K12
open PySem PySem.Spec PyProof.Rows L2 Sw
section
variable {P : Program} {w : World} {K : PySem.W.Frag} {mg : Str → Option Value} {base : Heap}
def spDelay : Sp := fun vs H Q _ => ∃ a b : Str, vs = [.str a, .str b] ∧ a.length ≤ 1000 ∧ b.length ≤ 1000 ∧ ∀ H' p, Same H H' → H' p = none → Q (.ref p) (upd H' p (.tup [.str (drS a (lc a b)), .str (drS b (lc a b))]))
theorem scDelay : FnScope ["one", "other", "length"] ["one", "other"] (defScope sDelay) := ⟨rfl, rfl, rfl, by decide +kernel, rfl, by decide +kernel, by decide +kernel⟩
theorem ok_delay {f fp : Addr} {fd fdp : FuncData} (F : FnP K "delay" sDelay f fd) (Fp : FnP K "common_prefix" sPrefix fp fdp) (gP : mg "common_prefix" = some (.ref fp)) (gM : mg "min" = none) (gX : mg "max" = none) (gL : mg "len" = none) :
    FnOk P w K mg base CX0 2 f fd ["one", "other"] spDelay := by
  have G : FnR P w K mg base CX0 1 fp spPre := ok_pre Fp gM gX gL
  refine F.ok scDelay (fun vs H Q E h => ?_) (fun cdv A outer s H vs Q E hr h => ?_)
  · obtain ⟨a, b, rfl, _⟩ := h; rfl
  · obtain ⟨a, b, rfl, la, lb, k⟩ := h
    have lz := line_big
    refine ⟨_, PSs.nox (pss_cons (ps_set (i := 2) scDelay.nd rfl (Or.inl rfl) (pe_callB call_len_str (by rfl) gL boot_len (pa_cons (pe_callR G hr (by rfl) gP Fp.kp pass0 (pa_cons (pv 0) (pa_cons (pv 1) pa_nil))) pa_nil)))
      (pss_one (ps_ret (pe_tup (pa_cons (pe_slice sl_str (pv 0) (po_some (pv 2)) po_none) (pa_cons (pe_slice sl_str (pv 1) (po_some (pv 2)) po_none) pa_nil)))))), ?_⟩
    refine ⟨_, rfl, _, rfl, a, [b], rfl, by simp, fun y hy => ?_, fun q p hq hp => ?_⟩
    · rcases List.mem_cons.mp hy with rfl | hy
      · exact la
      · rw [List.mem_singleton.mp hy]; exact lb
    · obtain rfl : q = a.cps.toList.take (lc a b) := hq.one (isPre_two a.cps.toList b.cps.toList) (by simp)
      have h1 := lc_l a b
      have h2 := lc_r a b
      have hl : (mkS (a.cps.toList.take (lc a b))).length = lc a b := by
        rw [mkS_len, List.length_take, codes_len]; omega
      refine ⟨_, rfl, by omega, ?_⟩
      rw [hl]
      refine ⟨_, rfl, _, rfl, _, rfl, a, rfl, by omega, _, rfl, _, rfl, _, rfl, b, rfl, by omega, by show 2 ≤ sizeLine; decide, fun p2 hp2 => ?_⟩
      rw [cut_tail (by omega), cut_tail (by omega)]
      exact k _ p2 (fun c o hc => by rw [upd_ne (ne_of_none hc hp)]; exact hc) hp2
/-! ### the deck -/
def dk (l : Addr) (br dr : Int) : List (Key × V) := [(.inr "cells", .ref l), (.inr "brew", .int br), (.inr "draws", .int dr)]
theorem k12 : ¬ (Sum.inr ("cells" : Str) : Key) = Sum.inr ("brew" : Str) := by decide +kernel
theorem k13 : ¬ (Sum.inr ("cells" : Str) : Key) = Sum.inr ("draws" : Str) := by decide +kernel
theorem k23 : ¬ (Sum.inr ("brew" : Str) : Key) = Sum.inr ("draws" : Str) := by decide +kernel
theorem dk_cells (l : Addr) (br dr : Int) : valV (dk l br dr) (.inr "cells") = some (.ref l) := valV_pos rfl
theorem dk_brew (l : Addr) (br dr : Int) : valV (dk l br dr) (.inr "brew") = some (.int br) := by
  unfold dk; rw [valV_neg k12, valV_pos rfl]
theorem dk_draws (l : Addr) (br dr : Int) : valV (dk l br dr) (.inr "draws") = some (.int dr) := by
  unfold dk; rw [valV_neg k13, valV_neg k23, valV_pos rfl]
theorem dk_put (l : Addr) (br dr e : Int) : putK (dk l br dr) (.inr "draws") (.int e) = dk l br e := by
  have a1 : ¬ ("cells" : Str) = "draws" := by decide +kernel
  have a2 : ¬ ("brew" : Str) = "draws" := by decide +kernel
  unfold dk putK
  simp [a1, a2]
structure DeckAt (H : Hp) (d l : Addr) (ns : List Int) (br dr : Int) : Prop where
  at_ : H d = some (.dK (dk l br dr))
  cells : H l = some (.lst (ns.map V.int))
  few : ns.length ≤ 63
  lo : 0 ≤ dr
theorem DeckAt.ne {H : Hp} {d l : Addr} {ns : List Int} {br dr : Int} (D : DeckAt H d l ns br dr) : l ≠ d := ne_of D.cells D.at_ (by intro z; cases z)
theorem DeckAt.gC {H : Hp} {d l : Addr} {ns : List Int} {br dr : Int} (D : DeckAt H d l ns br dr) : DGet H d (.str "cells") (some (.ref l)) := by
  have z := DGet.k (k := .inr ("cells" : Str)) D.at_
  rw [dk_cells] at z
  exact z
theorem DeckAt.gB {H : Hp} {d l : Addr} {ns : List Int} {br dr : Int} (D : DeckAt H d l ns br dr) : DGet H d (.str "brew") (some (.int br)) := by
  have z := DGet.k (k := .inr ("brew" : Str)) D.at_
  rw [dk_brew] at z
  exact z
theorem DeckAt.gD {H : Hp} {d l : Addr} {ns : List Int} {br dr : Int} (D : DeckAt H d l ns br dr) : DGet H d (.str "draws") (some (.int dr)) := by
  have z := DGet.k (k := .inr ("draws" : Str)) D.at_
  rw [dk_draws] at z
  exact z
theorem DeckAt.put {H : Hp} {d l : Addr} {ns : List Int} {br dr : Int} (D : DeckAt H d l ns br dr) (e : Int) : DPut H d (.str "draws") (.int e) (upd H d (.dK (dk l br e))) := by
  have z := DPut.k (k := .inr ("draws" : Str)) (v := .int e) D.at_ (by show 3 < sizeLine; decide)
  rw [dk_put] at z
  exact z
theorem DeckAt.drawn {H : Hp} {d l : Addr} {ns : List Int} {br dr : Int} (D : DeckAt H d l ns br dr) {e : Int} (he : 0 ≤ e) : DeckAt (upd H d (.dK (dk l br e))) d l ns br e :=
  ⟨upd_same, by rw [upd_ne D.ne]; exact D.cells, D.few, he⟩
theorem DeckAt.beside {H : Hp} {d l p : Addr} {ns : List Int} {br dr : Int} {o : HO} (D : DeckAt H d l ns br dr) (hp : H p = none) : DeckAt (upd H p o) d l ns br dr :=
  ⟨by rw [upd_ne (ne_of_none D.at_ hp)]; exact D.at_, by rw [upd_ne (ne_of_none D.cells hp)]; exact D.cells, D.few, D.lo⟩
theorem DeckAt.cellsTo {H : Hp} {d l : Addr} {ns ms : List Int} {br dr : Int} (D : DeckAt H d l ns br dr) (h : ms.length ≤ 63) : DeckAt (upd H l (.lst (ms.map V.int))) d l ms br dr :=
  ⟨by rw [upd_ne D.ne.symm]; exact D.at_, upd_same, h, D.lo⟩
def spDraw : Sp := fun vs H Q _ => ∃ (d l : Addr) (ns : List Int) (br dr m : Int), vs = [.ref d, .int m] ∧ DeckAt H d l ns br dr ∧ dr < 1000000 ∧ 1 ≤ m ∧ m ≤ 1000000 ∧
  ∀ (j : Int) (ns' : List Int) (H' : Hp), 0 ≤ j → j < m → DeckAt H' d l ns' br (dr + 1) → (∀ b o, b ≠ d → b ≠ l → H b = some o → H' b = some o) → Q (.int j) H'
theorem scDraw : FnScope ["_law_deck_here", "_law_below", "_law_turn", "_law_figure", "_law_cell"] ["_law_deck_here", "_law_below"] (defScope sDraw) := ⟨rfl, rfl, rfl, by decide +kernel, rfl, by decide +kernel, by decide +kernel⟩
theorem ok_ints : ∀ ns : List Int, PyData.canLayAll0 (ns.map PyData.int) = true
  | [] => by simp only [List.map_nil, PyData.canLayAll0]
  | n :: ns => by simp only [List.map_cons, PyData.canLayAll0, PyData.canLay0, ok_ints ns, Bool.and_self]
theorem depth_ints : ∀ xs : List Int, PyData.depthAll (xs.map PyData.int) = 0
  | [] => by simp only [List.map_nil, PyData.depthAll]
  | x :: xs => by simp only [List.map_cons, PyData.depthAll, PyData.depth, depth_ints xs, Nat.max_self]
theorem shaped_ints (ns : List Int) : SeqAt.shaped (.list (ns.map PyData.int)) = true := by
  unfold SeqAt.shaped
  simp only [PyData.canLay0, ok_ints, Bool.true_and, PyData.depth, depth_ints]
  decide
theorem ok_draw {f : Addr} {fd : FuncData} (F : FnP K "_law_draw" sDraw f fd) (gI : mg "int" = none) : FnOk P w K mg base CX0 1 f fd ["_law_deck_here", "_law_below"] spDraw := by
  refine F.ok scDraw (fun vs H Q E h => ?_) (fun cdv A outer s H vs Q E hr h => ?_)
  · obtain ⟨d, l, ns, br, dr, m, rfl, _⟩ := h; rfl
  · obtain ⟨d, l, ns, br, dr, m, rfl, D, hdr, hm1, hm2, k⟩ := h
    have hu := hu_of hr
    refine ⟨_, PSs.nox (pss_cons (ps_dput hu (pv 0) pe_str (pe_op op_add (pe_dget hu (pv 0) pe_str (fun _ _ => rfl)) pe_int) rfl)
      (pss_cons (ps_par (i := 2) (j := 3) rfl scDraw.nd rfl rfl (by decide) rfl rfl (pa_cons (pe_dget hu (pv 0) pe_str (fun _ _ => rfl)) (pa_cons (pe_dget hu (pv 0) pe_str (fun _ _ => rfl)) pa_nil)) rfl)
      (pss_cons (ps_if (pt_cmpR (op_neD hr.units) (pe_dget hu (pv 0) pe_str (fun _ _ => rfl)) (pe_lst pa_nil) (nomark _))
        (pss_cons (ps_set (i := 4) scDraw.nd rfl (Or.inl rfl) (pe_bm0 PySem.F.plainAttrs_list PySem.F.slot_list_pop PySem.F.type_list_pop mt_pop (pe_dget hu (pv 0) pe_str (fun _ _ => rfl))))
        (pss_cons (ps_if (pt_cmpR op_ge (pv 4) (pe_op op_pow pe_int pe_int) (nomark _))
          (pss_cons (ps_expr (pe_bm PySem.F.plainAttrs_list PySem.F.slot_list_append PySem.F.type_list_append mt_append (pe_dget hu (pv 0) pe_str (fun _ _ => rfl)) (pa_cons (pe_op op_fdivW (pv 4) (pv 1)) pa_nil)))
          (pss_one (ps_ret (pe_op op_mod (pe_callTy call_int1 (by rfl) gI boot_int (pa_cons (pv 4) pa_nil)) (pv 1)))))
          pss_nil)
        (pss_one (ps_set (i := 3) scDraw.nd rfl (Or.inl rfl) (pe_op op_add (pv 3) (pe_op op_mod (pe_callTy call_int1 (by rfl) gI boot_int (pa_cons (pv 4) pa_nil)) pe_int))))))
        pss_nil)
      (pss_cons (ps_set (i := 3) scDraw.nd rfl (Or.inl rfl) (pe_op op_mod (pe_op op_mul (pe_callTy call_int1 (by rfl) gI boot_int (pa_cons (pe_op op_add (pe_op op_add (pe_op op_mod (pv 3) pe_int) (pe_op op_mul (pe_op op_mul pe_int (pv 2)) (pv 2))) pe_int) pa_nil)) pe_int) pe_int))
      (pss_cons (ps_set (i := 3) scDraw.nd rfl (Or.inl rfl) (pe_op op_mod (pe_callTy call_int1 (by rfl) gI boot_int (pa_cons (pe_op op_add (pe_op op_add (pe_op op_mul (pv 3) (pv 3)) (pe_op op_mul pe_int (pv 2))) pe_int) pa_nil)) pe_int))
      (pss_one (ps_ret (pe_op op_mod (pe_op op_fdiv (pe_op op_mod (pe_callTy call_int1 (by rfl) gI boot_int (pa_cons (pe_op op_mul (pv 3) pe_int) pa_nil)) pe_int) pe_int) (pv 1))))))))), ?_⟩
    have Dn := D.ne
    have hd0 := D.lo
    have D1 := D.drawn (e := dr + 1) (by omega)
    refine ⟨_, rfl, d, .int dr, rfl, D.gD, _, _, rfl, rfl, _, rfl, d, _, rfl, D.put (dr + 1), ?_⟩
    refine ⟨_, rfl, d, _, rfl, D1.gD, _, rfl, d, _, rfl, D1.gB, _, _, rfl, ?_⟩
    refine ⟨_, rfl, d, _, rfl, D1.gC, by show 0 ≤ sizeLine; omega, fun p hp => ?_⟩
    have D2 := D1.beside (o := .lst []) hp
    have keep1 : ∀ b o, b ≠ d → b ≠ l → H b = some o → upd (upd H d (.dK (dk l br (dr + 1)))) p (.lst []) b = some o := fun b o h1 _ h3 => by
      have z : upd H d (.dK (dk l br (dr + 1))) b = some o := by rw [upd_ne h1]; exact h3
      rw [upd_ne (ne_of_none z hp)]; exact z
    have fin : ∀ (G : Hp) (ns' : List Int) (x : Int), DeckAt G d l ns' br (dr + 1) → (∀ b o, b ≠ d → b ≠ l → H b = some o → G b = some o) → Q (.int (x % m)) G :=
      fun G ns' x DG kp => k _ _ _ (Int.emod_nonneg _ (by omega)) (Int.emod_lt_of_pos _ (by omega)) DG kp
    have b1 : ∀ x : Int, -(2 ^ 64) < x % 2147483647 ∧ x % 2147483647 < 2 ^ 64 := fun x => by omega
    refine ⟨.list (ns.map PyData.int), .list [], .lst (SqL.of D2.cells) (dp_ints _), .lst (SqL.of upd_same) .nil, shaped_ints ns, by decide, _, rfl, ?_⟩
    rw [eqv_nil]
    cases hns : ns with
    | nil =>
      refine iteF ?_
      refine ⟨_, rfl, _, _, rfl, rfl, (by show (0 : Int) < 2147483629; decide), _, rfl, _, _, rfl, rfl, .inl ⟨by decide, by decide⟩, _, rfl, _, _, rfl, rfl, .inr ⟨by omega, by omega⟩, _, _, rfl, rfl, _, _, rfl, rfl, .inl ⟨_, rfl, _, _, rfl, rfl, .inr ⟨by decide, by decide⟩, _, _, rfl, rfl, (by show (0 : Int) < 2147483647; decide), ?_⟩⟩
      refine ⟨_, rfl, _, rfl, _, _, rfl, rfl, .inl (b1 _), _, rfl, _, _, rfl, rfl, .inl ⟨by decide, by decide⟩, _, _, rfl, rfl, _, _, rfl, rfl, .inl ⟨_, rfl, _, _, rfl, rfl, (by show (0 : Int) < 2147483579; decide), ?_⟩⟩
      refine ⟨_, rfl, _, _, rfl, rfl, .inr ⟨by decide, by decide⟩, .inl ⟨_, rfl, _, _, rfl, rfl, (by show (0 : Int) < 2147483549; decide), _, _, rfl, rfl, ⟨by decide, by decide⟩, _, rfl, _, _, rfl, rfl, (by show 0 < m; omega), ?_⟩⟩
      exact fin _ _ _ (hns ▸ D2) keep1
    | cons n0 ns0 =>
      refine iteT ?_
      have hne : ns ≠ [] := by rw [hns]; simp
      obtain ⟨cl, hcl⟩ : ∃ cl, ns[ns.length - 1]? = some cl := ⟨ns[ns.length - 1]'(by rw [hns]; simp), List.getElem?_eq_getElem _⟩
      have few := D.few
      have hdl : (ns.map V.int).dropLast = ns.dropLast.map V.int := (List.map_dropLast ..).symm
      have D3 := D2.cellsTo (ms := ns.dropLast) (by rw [List.length_dropLast]; omega)
      have keep2 : ∀ (o' : HO), ∀ b o, b ≠ d → b ≠ l → H b = some o → upd (upd (upd H d (.dK (dk l br (dr + 1)))) p (.lst [])) l o' b = some o := fun o' b o h1 h2 h3 => by
        rw [upd_ne h2]; exact keep1 b o h1 h2 h3
      refine ⟨_, rfl, d, _, rfl, D2.gC, .inl ⟨rfl, _, SqL.of D2.cells⟩, l, _, .int cl, rfl, rfl, D2.cells, by rw [List.length_map, List.getElem?_map, hcl]; rfl, ?_⟩
      rw [hdl]
      refine ⟨_, rfl, _, _, rfl, rfl, ⟨by decide, by decide, by decide⟩, _, _, rfl, rfl, _, rfl, ?_⟩
      refine ite2 (fun hbig => ?_) (fun hbig => ?_)
      · refine ⟨_, rfl, d, _, rfl, D3.gC, .inl ⟨rfl, _, SqL.of D3.cells⟩, _, rfl, _, rfl, _, _, rfl, rfl, wide_div (by omega) (b := 20) (by omega) (by decide) (by decide), l, _, _, rfl, rfl, D3.cells, ?_, ?_⟩
        · rw [List.length_map, List.length_dropLast]
          have := line_big
          omega
        · have e1 : (ns.dropLast.map V.int) ++ [V.int (cl / m)] = (ns.dropLast ++ [cl / m]).map V.int := by rw [List.map_append]; rfl
          rw [e1, upd_upd]
          have D4 := D2.cellsTo (ms := ns.dropLast ++ [cl / m]) (by rw [List.length_append, List.length_dropLast]; simp only [List.length_cons, List.length_nil]; omega)
          refine ⟨_, rfl, .inl ⟨_, rfl, _, rfl, _, _, rfl, rfl, (by show 0 < m; omega), ?_⟩⟩
          exact fin _ _ _ D4 (keep2 _)
      · refine ⟨_, rfl, _, rfl, .inl ⟨_, rfl, _, _, rfl, rfl, (by show (0 : Int) < 2147483563; decide), _, _, rfl, rfl, ?_⟩⟩
        refine ⟨_, rfl, _, _, rfl, rfl, (by show (0 : Int) < 2147483629; decide), _, rfl, _, _, rfl, rfl, .inl ⟨by decide, by decide⟩, _, rfl, _, _, rfl, rfl, .inr ⟨by omega, by omega⟩, _, _, rfl, rfl, _, _, rfl, rfl, .inl ⟨_, rfl, _, _, rfl, rfl, .inr ⟨by decide, by decide⟩, _, _, rfl, rfl, (by show (0 : Int) < 2147483647; decide), ?_⟩⟩
        refine ⟨_, rfl, _, rfl, _, _, rfl, rfl, .inl (b1 _), _, rfl, _, _, rfl, rfl, .inl ⟨by decide, by decide⟩, _, _, rfl, rfl, _, _, rfl, rfl, .inl ⟨_, rfl, _, _, rfl, rfl, (by show (0 : Int) < 2147483579; decide), ?_⟩⟩
        refine ⟨_, rfl, _, _, rfl, rfl, .inr ⟨by decide, by decide⟩, .inl ⟨_, rfl, _, _, rfl, rfl, (by show (0 : Int) < 2147483549; decide), _, _, rfl, rfl, ⟨by decide, by decide⟩, _, rfl, _, _, rfl, rfl, (by show 0 < m; omega), ?_⟩⟩
        exact fin _ _ _ D3 (keep2 _)
end
end K12
namespace K12
open PySem PySem.Spec PyProof.Rows L2 Sw
section
variable {P : Program} {w : World} {K : PySem.W.Frag} {mg : Str → Option Value} {base : Heap}
/-! ### _law_deck -/
theorem dk_merge (l : Addr) (b e : Int) : mergeK [] (dk l b e) = dk l b e := by
  have a1 : ¬ ("cells" : Str) = "draws" := by decide +kernel
  have a2 : ¬ ("brew" : Str) = "draws" := by decide +kernel
  have a3 : ¬ ("cells" : Str) = "brew" := by decide +kernel
  unfold mergeK dk putK
  simp [a1, a2, a3, putK]
theorem cut_63 {xs : List V} (h : xs.length ≤ 63) : cutV xs none (some 63) = xs := by
  unfold cutV
  have e : HT.sIx xs.length xs.length (some 63) = xs.length := by
    have := HT.sIx_nat xs.length xs.length 63
    rw [show ((63 : Nat) : Int) = 63 from rfl] at this
    rw [this]; omega
  rw [e, HT.sIx_none, List.drop_zero, Nat.sub_zero, List.take_of_length_le (Nat.le_refl _)]
def spDeck (K : PySem.W.Frag) : Sp := fun vs H Q _ => ∃ (a : Addr) (ns : List Int), vs = [.ref a] ∧ SqL K H a (ns.map V.int) ∧ ns.length ≤ 63 ∧ ∀ (d l : Addr) (ms : List Int) (br : Int) (H' : Hp), DeckAt H' d l ms br 0 → Same H H' → Q (.ref d) H'
theorem scDeck : FnScope ["_law_script", "_law_cells", "_law_brew", "_law_cell"] ["_law_script"] (defScope sDeck) := ⟨rfl, rfl, rfl, by decide +kernel, rfl, by decide +kernel, by decide +kernel⟩
theorem ok_deck {f : Addr} {fd : FuncData} (F : FnP K "_law_deck" sDeck f fd) (gI : mg "int" = none) (gL : mg "list" = none) : FnOk P w K mg base CX0 1 f fd ["_law_script"] (spDeck K) := by
  refine F.ok scDeck (fun vs H Q E h => ?_) (fun cdv A outer s H vs Q E hr h => ?_)
  · obtain ⟨a, ns, rfl, _⟩ := h; rfl
  · obtain ⟨a, ns, rfl, hS, hn, k⟩ := h
    have hu := hu_of hr
    refine ⟨_, PSs.nox (pss_cons (ps_par (i := 1) (j := 2) rfl scDeck.nd rfl rfl (by decide) rfl rfl (pa_cons (pe_callTy call_list_of (by rfl) gL boot_list (pa_cons (pe_slice sl_list (pv 0) po_none (po_some pe_int)) pa_nil)) (pa_cons pe_int pa_nil)) rfl)
      (pss_cons (ps_for PassesOwn.never rfl (pi_list (pv 1)) (pg_name (i := 3) scDeck.nd rfl (Or.inl rfl))
        (pss_one (ps_set (i := 2) scDeck.nd rfl (Or.inl rfl) (pe_op op_mod (pe_callTy call_int1 (by rfl) gI boot_int (pa_cons (pe_op op_add (pe_op op_add (pe_op op_mul (pv 2) pe_int) (pe_op op_mod (pe_callTy call_int1 (by rfl) gI boot_int (pa_cons (pv 3) pa_nil)) pe_int)) pe_int) pa_nil)) pe_int))))
      (pss_one (ps_ret (pe_disp (pps_cons pe_str (pe_revL (pv 1)) (pps_cons pe_str (pv 2) (pps_cons pe_str pe_int pps_nil))) rfl rfl (by simp) (by decide)))))), ?_⟩
    refine ⟨_, rfl, _, rfl, a, _, rfl, hS, fun p hp => ?_⟩
    rw [cut_63 (by rw [List.length_map]; exact hn)]
    refine ⟨p, _, rfl, .inl (SqL.of upd_same), fun q hq => ⟨_, _, rfl, ?_⟩⟩
    have s2 : Same H (upd (upd H p (.lst (ns.map V.int))) q (.lst (ns.map V.int))) := fun b o hb => by
      have z : upd H p (.lst (ns.map V.int)) b = some o := by rw [upd_ne (ne_of_none hb hp)]; exact hb
      rw [upd_ne (ne_of_none z hq)]; exact z
    refine ⟨_, rfl, q, rfl, ⟨_, SqL.of upd_same⟩, for_list (K := K) (a := q) (xs := ns.map V.int) (fun i σ G => ∃ (v : Option V) (b : Int), σ = [some (.ref a), some (.ref q), some (.int b), v] ∧ G = upd (upd H p (.lst (ns.map V.int))) q (.lst (ns.map V.int)))
      ⟨none, 10862012, rfl, rfl⟩ (fun i σ G _ ⟨_, _, _, e⟩ => by rw [e]; exact SqL.of upd_same) ?_ ?_⟩
    · rintro i y σ G hi ⟨v, b, rfl, rfl⟩
      obtain ⟨z, rfl⟩ : ∃ z, y = V.int z := by
        rw [List.getElem?_map] at hi
        cases e : ns[i]? with
        | none => rw [e] at hi; cases hi
        | some z => rw [e] at hi; exact ⟨z, (Option.some.inj hi).symm⟩
      exact ⟨_, rfl, _, _, rfl, rfl, .inr ⟨by decide, by decide⟩, _, rfl, .inl ⟨_, rfl, _, _, rfl, rfl, (by show (0 : Int) < 2147483629; decide), _, _, rfl, rfl, _, _, rfl, rfl, .inl ⟨_, rfl, _, _, rfl, rfl, (by show (0 : Int) < 2147483587; decide), _, _, rfl, rfl⟩⟩⟩
    · rintro σ G ⟨v, b, rfl, rfl⟩
      refine fun d hd => ⟨_, rfl, q, _, rfl, SqL.of (by rw [upd_ne (ne_of_none upd_same hd)]; exact upd_same), fun l hl => ⟨_, rfl, ?_⟩⟩
      have hdl : d ≠ l := ne_of_none upd_same hl
      refine ⟨by rw [upd_ne hdl]; exact upd_same, dk l b 0, rfl, by show 3 ≤ 15; omega, ?_⟩
      rw [dk_merge]
      refine k d l ns.reverse b _ ⟨upd_same, by rw [upd_ne hdl.symm, upd_same, List.map_reverse], by rw [List.length_reverse]; exact hn, Int.le_refl _⟩ fun c o hc => ?_
      have z1 := s2 c o hc
      have n1 : c ≠ d := ne_of_none z1 hd
      have z2 : upd (upd (upd H p (.lst (ns.map V.int))) q (.lst (ns.map V.int))) d (.dK []) c = some o := by rw [upd_ne n1]; exact z1
      rw [upd_ne n1, upd_ne (ne_of_none z2 hl)]
      exact z2
end
end K12
namespace K12
open PySem PySem.Spec PyProof.Rows L2 Sw
theorem cat_codes (a b : Str) : (a ++ b).cps.toList = a.cps.toList ++ b.cps.toList := by
  show (a.cps ++ b.cps).toList = _
  rw [Array.toList_append]
theorem join_codes : ∀ ys : List Str, (Str.join "" ys).cps.toList = (ys.map fun y => y.cps.toList).flatten
  | [] => rfl
  | [x] => by simp [Str.join]
  | x :: y :: r => by
    have e : (("" : Str)).cps.toList = [] := by decide
    show (x ++ "" ++ Str.join "" (y :: r)).cps.toList = _
    rw [cat_codes, cat_codes, e, join_codes (y :: r), List.append_nil]
    simp only [List.map_cons, List.flatten_cons]
section
variable {P : Program} {w : World} {K : PySem.W.Frag} {mg : Str → Option Value} {base : Heap}
/-- what is picked from: the signs of a text, the items of a list -/
inductive Pk (H : Hp) (l : Addr) : V → List V → Prop
  | str (z : Str) (h1 : 1 ≤ z.length) (h2 : z.length ≤ 1000) : Pk H l (.str z) (z.cps.toList.map fun c => V.str ⟨#[c]⟩)
  | lst {a : Addr} {xs : List V} (h : H a = some (.lst xs)) (hn : a ≠ l) (h1 : 1 ≤ xs.length) (h2 : xs.length ≤ 1000) : Pk H l (.ref a) xs
def spPick : Sp := fun vs H Q _ => ∃ (d l : Addr) (ns : List Int) (br dr : Int) (x : V) (its : List V), vs = [.ref d, x] ∧ DeckAt H d l ns br dr ∧ dr < 1000000 ∧ Pk H l x its ∧
  ∀ (v : V) (ns' : List Int) (H' : Hp), v ∈ its → DeckAt H' d l ns' br (dr + 1) → (∀ b o, b ≠ d → b ≠ l → H b = some o → H' b = some o) → Q v H'
theorem scPick : FnScope ["_law_deck_here", "_law_some"] ["_law_deck_here", "_law_some"] (defScope sPick) := ⟨rfl, rfl, rfl, by decide +kernel, rfl, by decide +kernel, by decide +kernel⟩
theorem ok_pick {f fD : Addr} {fd fdD : FuncData} (F : FnP K "_law_pick" sPick f fd) (FD : FnP K "_law_draw" sDraw fD fdD) (gD : mg "_law_draw" = some (.ref fD)) (gI : mg "int" = none) (gL : mg "len" = none) : FnOk P w K mg base CX0 2 f fd ["_law_deck_here", "_law_some"] spPick := by
  have G : FnOk P w K mg base CX0 1 fD fdD ["_law_deck_here", "_law_below"] spDraw := ok_draw FD gI
  have bD : Binds K fdD ["_law_deck_here", "_law_below"] [] := FD.bindsN fun _ _ _ _ _ _ us hl => match us, hl with | [_, _], _ => rfl
  refine F.ok scPick (fun vs H Q E h => ?_) (fun cdv A outer s H vs Q E hr h => ?_)
  · obtain ⟨d, l, ns, br, dr, x, its, rfl, _⟩ := h; rfl
  · obtain ⟨d, l, ns, br, dr, x, its, rfl, D, hdr, pk, k⟩ := h
    have lz := line_big
    refine ⟨_, PSs.nox (pss_one (ps_ret (pe_ix (IxR.or ix_list ix_str) (pv 1) (pe_call G hr (by rfl) gD FD.kp bD .nil pass0 (pa_cons (pv 0) (pa_cons (pe_callB (CallR.or call_len_seq call_len_str) (by rfl) gL boot_len (pa_cons (pv 1) pa_nil)) pa_nil))) (fun _ _ => rfl)))), ?_⟩
    cases pk with
    | str z h1 h2 =>
      refine ⟨_, rfl, _, rfl, _, rfl, .inr ⟨z, rfl, by omega, ?_⟩⟩
      refine ⟨d, l, ns, br, dr, _, rfl, D, hdr, by omega, by omega, fun j ns' H' hj1 hj2 D' kp => .inr ?_⟩
      obtain ⟨n, rfl⟩ : ∃ n : Nat, j = (n : Int) := ⟨j.toNat, by omega⟩
      have hn : n < z.length := by omega
      refine ⟨z, _, _, rfl, rfl, by omega, item_at hn, k _ _ _ (List.mem_map.mpr ⟨_, List.getElem_mem _, rfl⟩) D' kp⟩
    | @lst a xs h hn h1 h2 =>
      have had : a ≠ d := ne_of h D.at_ (by intro z; cases z)
      refine ⟨_, rfl, _, rfl, _, rfl, .inl ⟨a, _, rfl, .inl (SqL.of h), ?_⟩⟩
      refine ⟨d, l, ns, br, dr, _, rfl, D, hdr, by omega, by omega, fun j ns' H' hj1 hj2 D' kp => .inl ?_⟩
      obtain ⟨n, rfl⟩ : ∃ n : Nat, j = (n : Int) := ⟨j.toNat, by omega⟩
      have hn2 : n < its.length := by omega
      exact ⟨a, its, _, its[n], rfl, rfl, SqL.of (kp a _ had hn h), atI_nat (List.getElem?_eq_getElem hn2), k _ _ _ (List.getElem_mem _) D' kp⟩
def spBit : Sp := fun vs H Q _ => ∃ (d l : Addr) (ns : List Int) (br dr : Int) (zs : Str) (t : Int), vs = [.ref d, .str zs, .int t] ∧ DeckAt H d l ns br dr ∧ dr < 900000 ∧ 1 ≤ zs.length ∧ zs.length ≤ 1000 ∧ asc zs = true ∧ 0 ≤ t ∧ t ≤ 40 ∧
  ∀ (z : Str) (ns' : List Int) (dr' : Int) (H' : Hp), asc z = true → z.length ≤ 40 → DeckAt H' d l ns' br dr' → dr' ≤ dr + 42 → (∀ b o, b ≠ d → b ≠ l → H b = some o → H' b = some o) → Q (.str z) H'
theorem scBit : FnScope ["_law_deck_here", "_law_signs", "_law_top", "_law_go"] ["_law_deck_here", "_law_signs", "_law_top"] (defScope sBit) := ⟨rfl, rfl, rfl, by decide +kernel, rfl, by decide +kernel, by decide +kernel⟩
theorem ok_bit {f fD fP : Addr} {fd fdD fdP : FuncData} (F : FnP K "_law_bit" sBit f fd) (FD : FnP K "_law_draw" sDraw fD fdD) (FP : FnP K "_law_pick" sPick fP fdP) (gD : mg "_law_draw" = some (.ref fD)) (gP : mg "_law_pick" = some (.ref fP)) (gI : mg "int" = none) (gL : mg "len" = none) (gR : mg "range" = none) :
    FnOk P w K mg base CX0 3 f fd ["_law_deck_here", "_law_signs", "_law_top"] spBit := by
  have G : FnOk P w K mg base CX0 1 fD fdD ["_law_deck_here", "_law_below"] spDraw := ok_draw FD gI
  have GP : FnOk P w K mg base CX0 2 fP fdP ["_law_deck_here", "_law_some"] spPick := ok_pick FP FD gD gI gL
  have bD : Binds K fdD ["_law_deck_here", "_law_below"] [] := FD.bindsN fun _ _ _ _ _ _ us hl => match us, hl with | [_, _], _ => rfl
  have bP : Binds K fdP ["_law_deck_here", "_law_some"] [] := FP.bindsN fun _ _ _ _ _ _ us hl => match us, hl with | [_, _], _ => rfl
  refine F.ok scBit (fun vs H Q E h => ?_) (fun cdv A outer s H vs Q E hr h => ?_)
  · obtain ⟨d, l, ns, br, dr, zs, t, rfl, _⟩ := h; rfl
  · obtain ⟨d, l, ns, br, dr, zs, t, rfl, D, hdr, hz1, hz2, hza, ht1, ht2, k⟩ := h
    have lz := line_big
    refine ⟨_, PSs.nox (pss_one (ps_ret (pe_join pe_str (pe_lc (own := [("_law_go", 3)]) (g := gName 3) (tt := tYes) rfl scBit.nd
        (pi_range1 rfl gR (pa_cons (pe_call G (hr.mono (by decide)) (by rfl) gD FD.kp bD .nil pass0 (pa_cons (pv 0) (pa_cons (pe_op op_add (pv 2) pe_int) pa_nil))) pa_nil))
        (blkOk_by (N := ["_law_deck_here", "_law_signs", "_law_top", "_law_go"]) (sc := defScope sBit) (by decide +kernel)) (fun _ _ _ _ _ => pg_name (i := 3) scBit.nd rfl (Or.inl rfl)) (fun _ _ _ _ _ => pts_nil)
        (fun _ _ _ _ _ => pe_call GP hr (by rfl) gP FP.kp bP .nil pass0 (pa_cons (pv 0) (pa_cons (pv 1) pa_nil))))))), ?_⟩
    refine ⟨⟨_, rfl⟩, _, rfl, _, rfl, _, _, rfl, rfl, d, l, ns, br, dr, _, rfl, D, by omega, by omega, by omega, fun j ns1 H1 hj1 hj2 D1 kp1 => ?_⟩
    refine ⟨j, rfl, by omega, by omega, fun B hB => ?_⟩
    have hBd : B ≠ d := fun e => by rw [e, D1.at_] at hB; cases hB
    have hBl : B ≠ l := fun e => by rw [e, D1.cells] at hB; cases hB
    refine lc_range (fun i G2 => ∃ (ms : List Int) (dd : Int) (acc : List Str), DeckAt G2 d l ms br dd ∧ dd ≤ dr + 1 + i ∧ G2 B = some (.lst (acc.map V.str)) ∧ acc.length = i ∧ (∀ y ∈ acc, y.length = 1 ∧ asc y = true) ∧ ∀ b o, b ≠ d → b ≠ l → b ≠ B → H1 b = some o → G2 b = some o)
      ⟨ns1, dr + 1, [], D1.beside hB, by omega, upd_same, rfl, (fun y hy => by cases hy), fun b o _ _ h3 h4 => by rw [upd_ne h3]; exact h4⟩ ?_ ?_
    · rintro i G2 hi ⟨ms, dd, acc, D2, hdd, hacc, hlen, hall, kp⟩
      refine ⟨rfl, _, rfl, _, rfl, d, l, ms, br, dd, _, _, rfl, D2, by omega, .str zs hz1 hz2, fun v ms' G3 hv D3 kp3 => ?_⟩
      obtain ⟨c, hc, rfl⟩ := List.mem_map.mp hv
      refine ⟨_, kp3 B _ hBd hBl hacc, by rw [List.length_map]; omega, ms', dd + 1, acc ++ [⟨#[c]⟩], ?_, by omega, by rw [upd_same, List.map_append]; rfl, by rw [List.length_append, hlen]; rfl, fun y hy => ?_, fun b o h1 h2 h3 h4 => by rw [upd_ne h3]; exact kp3 b o h1 h2 (kp b o h1 h2 h3 h4)⟩
      · exact ⟨by rw [upd_ne hBd.symm]; exact D3.at_, by rw [upd_ne hBl.symm]; exact D3.cells, D3.few, D3.lo⟩
      · rcases List.mem_append.mp hy with hy | hy
        · exact hall y hy
        · rw [List.mem_singleton.mp hy]
          have := asc_lt hza c hc
          exact ⟨rfl, by simp [asc, this]⟩
    · rintro G2 ⟨ms, dd, acc, D2, hdd, hacc, hlen, hall, kp⟩
      have hsum : (acc.map (·.length)).sum = acc.length := by
        clear hlen hacc
        induction acc with
        | nil => rfl
        | cons y ys ih =>
          rw [List.map_cons, List.sum_cons, ih fun z hz => hall z (List.mem_cons_of_mem _ hz), (hall y (List.mem_cons_self ..)).1, List.length_cons]; omega
      have hfl : ∀ xs : List Str, (∀ y ∈ xs, y.length = 1 ∧ asc y = true) → ((xs.map fun y => y.cps.toList).flatten).length = xs.length ∧ ∀ c ∈ (xs.map fun y => y.cps.toList).flatten, c < 128 := by
        intro xs hx
        induction xs with
        | nil => exact ⟨rfl, fun c hc => by cases hc⟩
        | cons y ys ih =>
          obtain ⟨i1, i2⟩ := ih fun z hz => hx z (List.mem_cons_of_mem _ hz)
          obtain ⟨y1, y2⟩ := hx y (List.mem_cons_self ..)
          rw [List.map_cons, List.flatten_cons]
          refine ⟨by rw [List.length_append, i1, codes_len, y1, List.length_cons]; omega, fun c hc => ?_⟩
          rcases List.mem_append.mp hc with hc | hc
          · exact asc_lt y2 c hc
          · exact i2 c hc
      obtain ⟨f1, f2⟩ := hfl acc hall
      have ej : Txt.join "" acc = Str.join "" acc := eq_of_beq (join_plain_closes "" acc)
      have hjl : (Txt.join "" acc).length ≤ 40 := by
        rw [ej, ← codes_len, join_codes, f1]; omega
      refine ⟨"", B, acc, rfl, rfl, .inl (SqL.of hacc), ?_, ?_⟩
      · rw [hsum, show (("" : Str)).length = 0 from rfl]; omega
      · refine k _ ms dd _ ?_ hjl D2 (by omega) fun b o h1 h2 h3 => ?_
        · rw [ej]
          exact List.all_eq_true.mpr fun c hc => decide_eq_true (f2 c (by rw [← join_codes]; exact hc))
        · have z := kp1 b o h1 h2 h3
          exact kp b o h1 h2 (ne_of_none z hB) z
end
end K12
namespace K12
open PySem PySem.Spec PyProof.Rows L2 Sw
theorem grow_le : ∀ (ts acc : List Str), acc.length ≤ (ts.foldl (fun a x => if a.any (· == x) then a else a ++ [x]) acc).length
  | [], acc => Nat.le_refl _
  | t :: ts, acc => by
    rw [List.foldl_cons]
    refine Nat.le_trans ?_ (grow_le ts _)
    split
    · exact Nat.le_refl _
    · rw [List.length_append]; omega
theorem fold_one : ∀ (ts : List Str) (t : Str), (ts.foldl (fun a x => if a.any (· == x) then a else a ++ [x]) [t]).length = 1 ↔ ∀ u ∈ ts, u = t
  | [], t => by simp
  | u :: ts, t => by
    rw [List.foldl_cons]
    by_cases e : t = u
    · subst e
      have : ([t].any (· == t)) = true := by simp
      rw [if_pos this, fold_one ts t]
      simp
    · have : ¬ ([t].any (· == u)) = true := by simpa using e
      rw [if_neg this]
      have g := grow_le ts ([t] ++ [u])
      rw [List.length_append] at g
      simp only [List.length_cons, List.length_nil] at g
      constructor
      · intro h; omega
      · intro h; exact absurd (h u (List.mem_cons_self ..)).symm e
theorem once_one (t : Str) (ts : List Str) : (once (t :: ts)).length = 1 ↔ ∀ u ∈ ts, u = t := by
  have e : once (t :: ts) = ts.foldl (fun a x => if a.any (· == x) then a else a ++ [x]) [t] := rfl
  rw [e]; exact fold_one ts t
section
variable {P : Program} {w : World} {K : PySem.W.Frag} {mg : Str → Option Value} {base : Heap}
def spLPre : Sp := fun vs H Q _ => ∃ (a : Addr) (x : Str) (xs : List Str), vs = [.ref a] ∧ H a = some (.lst ((x :: xs).map V.str)) ∧ xs.length ≤ 100 ∧ (∀ y ∈ x :: xs, y.length ≤ 1000) ∧
  ∀ q H', IsPre ((x :: xs).map cod) q → Same H H' → Q (.str (mkS q)) H'
theorem scLPre : FnScope ["_law_some", "_law_size", "_law_it"] ["_law_some"] (defScope sLPrefix) := ⟨rfl, rfl, rfl, by decide +kernel, rfl, by decide +kernel, by decide +kernel⟩
theorem ok_lpre {f : Addr} {fd : FuncData} (F : FnP K "_law_prefix" sLPrefix f fd) (gM : mg "min" = none) (gL : mg "len" = none) (gS : mg "set" = none) : FnOk P w K mg base CX0 1 f fd ["_law_some"] spLPre := by
  refine F.ok scLPre (fun vs H Q E h => ?_) (fun cdv A outer s H vs Q E hr h => ?_)
  · obtain ⟨a, x, xs, rfl, _⟩ := h; rfl
  · obtain ⟨a, x, xs, rfl, ha, hn, hl, k⟩ := h
    have lz := line_big
    refine ⟨_, PSs.nox (pss_cons (ps_set (i := 1) scLPre.nd rfl (Or.inr rfl) pe_int)
      (pss_cons (ps_while PassesOwn.never (PW.pt (pw_and (pt_cmpR op_lt (pv 1) (pe_callB (cr_min rfl) (by rfl) gM boot_min (pa_cons (pe_lc (own := [("_law_it", 2)]) (g := gName 2) (tt := tYes) rfl scLPre.nd (pi_list (pv 0)) (blkOk_by (N := ["_law_some", "_law_size", "_law_it"]) (sc := defScope sLPrefix) (by decide +kernel))
            (fun _ _ _ _ _ => pg_name (i := 2) scLPre.nd rfl (Or.inl rfl)) (fun _ _ _ _ _ => pts_nil) (fun _ _ _ _ _ => pe_callB call_len_str (by rfl) gL boot_len (pa_cons (pv 2) pa_nil))) pa_nil)) (nomark _))
          (pw_and1 (pt_cmpR op_eq (pe_callB call_lenTx (by rfl) gL boot_len (pa_cons (pe_callTy (call_setTx rfl) (by rfl) gS boot_set (pa_cons (pe_lc (own := [("_law_it", 2)]) (g := gName 2) (tt := tYes) rfl scLPre.nd (pi_list (pv 0)) (blkOk_by (N := ["_law_some", "_law_size", "_law_it"]) (sc := defScope sLPrefix) (by decide +kernel))
            (fun _ _ _ _ _ => pg_name (i := 2) scLPre.nd rfl (Or.inl rfl)) (fun _ _ _ _ _ => pts_nil) (fun _ _ _ _ _ => pe_slice sl_str (pv 2) po_none (po_some (pe_op op_add (pv 1) pe_int)))) pa_nil)) pa_nil)) pe_int (nomark _)))))
        (pss_one (ps_set (i := 1) scLPre.nd rfl (Or.inr rfl) (pe_op op_add (pv 1) pe_int))))
      (pss_one (ps_ret (pe_slice sl_str (pe_ix ix_list (pv 0) pe_int (fun _ _ => rfl)) po_none (po_some (pv 1))))))), ?_⟩
    refine ⟨fun m σ G => ∃ n : Nat, σ = [some (.ref a), some (.int n), none] ∧ Same H G ∧ (∀ u ∈ x :: xs, n ≤ u.length) ∧ (∀ u ∈ x :: xs, (cod u).take n = (cod x).take n) ∧ m = x.length - n, ⟨_, 0, rfl, Same.refl H, fun u _ => Nat.zero_le _, fun u _ => rfl, rfl⟩, ?_⟩
    rintro m σ G ⟨n, rfl, hs, h1, h2, rfl⟩
    have hx1 := h1 x (List.mem_cons_self ..)
    -- the end
    have fin : ∀ G' : Hp, Same H G' → ((∀ u ∈ x :: xs, n < u.length) → ∃ u ∈ x :: xs, (cod u).take (n + 1) ≠ (cod x).take (n + 1)) → Q (.str (cutS x none (some (n : Int)))) G' := fun G' hs' h3 => by
      rw [cut_head hx1]
      refine k _ G' (isPre_search (w := cod x) (n := n) ?_ ?_ ?_ ?_) hs'
      · exact List.mem_cons_self ..
      · intro u hu
        obtain ⟨y, hy, rfl⟩ := List.mem_map.mp hu
        rw [show (cod y).length = y.length from codes_len y]; exact h1 y hy
      · intro u hu
        obtain ⟨y, hy, rfl⟩ := List.mem_map.mp hu
        exact h2 y hy
      · intro hlt
        obtain ⟨u, hu, hne⟩ := h3 fun u hu => by
          have := hlt (cod u) (List.mem_map_of_mem hu)
          rwa [show (cod u).length = u.length from codes_len u] at this
        exact ⟨cod u, List.mem_map_of_mem hu, hne⟩
    have lenx : ((x :: xs).map V.str).length = xs.length + 1 := by rw [List.length_map, List.length_cons]
    have snap : ∀ {i : Nat} {y : V} (_ : ((x :: xs).map V.str)[i]? = some y), ∃ z, y = V.str z ∧ z ∈ x :: xs ∧ (x :: xs).take (i + 1) = (x :: xs).take i ++ [z] := fun {i y} hi => by
      rw [List.getElem?_map] at hi
      cases e : (x :: xs)[i]? with
      | none => rw [e] at hi; cases hi
      | some z => rw [e] at hi; exact ⟨z, (Option.some.inj hi).symm, List.mem_of_getElem? e, by rw [List.take_succ, e]; rfl⟩
    have few : ∀ i : Nat, ((x :: xs).take i).length < sizeLine := fun i => by
      rw [List.length_take, List.length_cons]; omega
    have all : (x :: xs).take ((x :: xs).map V.str).length = x :: xs := List.take_of_length_le (by rw [List.length_map]; exact Nat.le_refl _)
    refine ⟨_, rfl, _, rfl, a, rfl, ⟨_, SqL.of (hs _ _ ha)⟩, fun D hD => lc_list (fun i G1 => G1 = upd G D (.lst (((x :: xs).take i).map fun y => V.int y.length))) rfl (fun i G1 _ e => by rw [e]; exact SqL.of (by rw [upd_ne (ne_of_none (hs _ _ ha) hD)]; exact hs _ _ ha)) ?_ ?_⟩
    · rintro i y G1 hi rfl
      obtain ⟨z, rfl, hz, et⟩ := snap hi
      have := hl z hz
      exact ⟨rfl, _, rfl, z, rfl, by omega, _, upd_same, by rw [List.length_map]; exact few i, by rw [upd_upd, et, List.map_append]; rfl⟩
    · rintro G1 rfl
      rw [all]
      have hs1 : Same H (upd G D (.lst ((x :: xs).map fun y => V.int y.length))) := fun b o hb => by
        rw [upd_ne (ne_of_none (hs _ _ hb) hD)]; exact hs _ _ hb
      refine ⟨D, (x :: xs).map fun y => (y.length : Int), rfl, SqL.of (by rw [upd_same, List.map_map]; rfl), by rw [List.length_map, List.length_cons]; omega, fun m hm hmin => ⟨_, _, rfl, rfl, _, rfl, ?_⟩⟩
      refine ite2 (fun hlt => ?_) (fun hlt => ?_)
      · have hlt : (n : Int) < m := of_decide_eq_true hlt
        have hlen : ∀ u ∈ x :: xs, n < u.length := fun u hu => by
          have := hmin _ (List.mem_map_of_mem (f := fun y : Str => (y.length : Int)) hu)
          omega
        refine ⟨_, rfl, a, rfl, ⟨_, SqL.of (hs1 _ _ ha)⟩, fun D2 hD2 => lc_list (fun i G1 => G1 = upd (upd G D (.lst ((x :: xs).map fun y => V.int y.length))) D2 (.lst (((x :: xs).take i).map fun y => V.str (tkS y (n + 1))))) rfl (fun i G1 _ e => by rw [e]; exact SqL.of (by rw [upd_ne (ne_of_none (hs1 _ _ ha) hD2)]; exact hs1 _ _ ha)) ?_ ?_⟩
        · rintro i y G1 hi rfl
          obtain ⟨z, rfl, hz, et⟩ := snap hi
          have h3 := hl z hz
          have h4 := hlen z hz
          refine ⟨rfl, _, rfl, _, rfl, _, _, rfl, rfl, _, rfl, z, rfl, by omega, _, upd_same, by rw [List.length_map]; exact few i, ?_⟩
          have e1 : cutS z none (some ((n : Int) + 1)) = tkS z (n + 1) := cut_head (n := n + 1) (by omega)
          rw [upd_upd, et, List.map_append, e1]; rfl
        · rintro G1 rfl
          rw [all]
          have hs2 : Same H (upd (upd G D (.lst ((x :: xs).map fun y => V.int y.length))) D2 (.lst ((x :: xs).map fun y => V.str (tkS y (n + 1))))) := fun b o hb => by
            rw [upd_ne (ne_of_none (hs1 _ _ hb) hD2)]; exact hs1 _ _ hb
          refine ⟨D2, (x :: xs).map fun y => tkS y (n + 1), rfl, SqL.of (by rw [upd_same, List.map_map]; rfl), by rw [List.length_map, List.length_cons]; omega, fun p hp => ⟨p, _, rfl, upd_same, rfl, _, rfl, ?_⟩⟩
          have hs3 : ∀ o, Same H (upd (upd (upd G D (.lst ((x :: xs).map fun y => V.int y.length))) D2 (.lst ((x :: xs).map fun y => V.str (tkS y (n + 1))))) p o) := fun o b o' hb => by
            rw [upd_ne (ne_of_none (hs2 _ _ hb) hp)]; exact hs2 _ _ hb
          have ho := once_one (tkS x (n + 1)) (xs.map fun y => tkS y (n + 1))
          refine ite2 (fun hone => ?_) (fun hone => ?_)
          · have heq : ∀ u ∈ x :: xs, (cod u).take (n + 1) = (cod x).take (n + 1) := fun u hu => by
              have h5 := of_decide_eq_true hone
              injection h5 with h5
              have h5 : ((once (tkS x (n + 1) :: xs.map fun y => tkS y (n + 1))).length : Int) = 1 := by simpa using h5
              have h6 := ho.mp (by omega)
              rcases List.mem_cons.mp hu with rfl | hu
              · rfl
              · exact congrArg (fun z : Str => z.cps.toList) (h6 _ (List.mem_map_of_mem hu))
            refine ⟨fun τ G' => τ = [some (.ref a), some (.int ((n + 1 : Nat) : Int)), none] ∧ Same H G', ?_, _, rfl, _, _, rfl, rfl, rfl, hs3 _⟩
            rintro τ G' ⟨rfl, hs'⟩
            have := hlen x (List.mem_cons_self ..)
            exact ⟨x.length - (n + 1), by omega, n + 1, rfl, hs', hlen, heq, rfl⟩
          · refine ⟨_, rfl, a, _, _, _, rfl, rfl, SqL.of (hs3 _ _ _ ha), atI_nat (xs := (x :: xs).map V.str) (j := 0) rfl, _, rfl, _, rfl, x, rfl, by have := hl x (List.mem_cons_self ..); omega, fin _ (hs3 _) fun _ => ?_⟩
            refine Classical.byContradiction fun no => (of_decide_eq_false (by simpa using hone)) ?_
            have h6 := ho.mpr fun u hu => by
              obtain ⟨y, hy, rfl⟩ := List.mem_map.mp hu
              refine mkS_inj ?_
              refine Classical.byContradiction fun ne => no ⟨y, List.mem_cons_of_mem _ hy, ne⟩
            rw [h6]; rfl
      · have hlt : ¬ (n : Int) < m := of_decide_eq_false (by simpa using hlt)
        obtain ⟨u, hu, rfl⟩ := List.mem_map.mp hm
        refine iteF ⟨_, rfl, a, _, _, _, rfl, rfl, SqL.of (hs1 _ _ ha), atI_nat (xs := (x :: xs).map V.str) (j := 0) rfl, _, rfl, _, rfl, x, rfl, by have := hl x (List.mem_cons_self ..); omega, fin _ hs1 fun h3 => ?_⟩
        have := h3 u hu
        omega
end
end K12
namespace K12
open PySem PySem.Spec PyProof.Rows L2 Sw
section
variable {P : Program} {w : World} {K : PySem.W.Frag} {mg : Str → Option Value} {base : Heap}
/-- the other objects stay -/
def Keep (d l : Addr) (H H' : Hp) : Prop := ∀ b o, b ≠ d → b ≠ l → H b = some o → H' b = some o
theorem Keep.trans {d l : Addr} {H H1 H2 : Hp} (a : Keep d l H H1) (b : Keep d l H1 H2) : Keep d l H H2 := fun c o h1 h2 h => b c o h1 h2 (a c o h1 h2 h)
theorem Keep.beside {d l p : Addr} {H : Hp} {o : HO} (hp : H p = none) : Keep d l H (upd H p o) := fun b o h1 h2 h => by rw [upd_ne (ne_of_none h hp)]; exact h
theorem DeckAt.other {H : Hp} {d l p : Addr} {ns : List Int} {br dr : Int} {o : HO} (D : DeckAt H d l ns br dr) (h1 : p ≠ d) (h2 : p ≠ l) : DeckAt (upd H p o) d l ns br dr :=
  ⟨by rw [upd_ne h1.symm]; exact D.at_, by rw [upd_ne h2.symm]; exact D.cells, D.few, D.lo⟩
theorem asc_cat {a b : Str} (h1 : asc a = true) (h2 : asc b = true) : asc (a ++ b) = true := by
  unfold asc; rw [cat_codes, List.all_append]
  exact Bool.and_eq_true_iff.mpr ⟨h1, h2⟩
theorem cat_len (a b : Str) : (a ++ b).length = a.length + b.length := by
  rw [← codes_len, cat_codes, List.length_append, codes_len, codes_len]
def spLot : Sp := fun vs H Q _ => ∃ (d l : Addr) (ns : List Int) (br dr : Int), vs = [.ref d] ∧ DeckAt H d l ns br dr ∧ dr < 800000 ∧
  ∀ (a : Addr) (zs : List Str) (ns' : List Int) (dr' : Int) (H' : Hp), H' a = some (.lst (zs.map V.str)) → a ≠ d → a ≠ l → 2 ≤ zs.length → zs.length ≤ 5 → (∀ z ∈ zs, asc z = true ∧ z.length ≤ 80) → DeckAt H' d l ns' br dr' → dr' ≤ dr + 1000 → Keep d l H H' → Q (.ref a) H'
theorem scLot : FnScope ["_law_deck_here", "_law_trunk", "_law_found", "_law_go", "_law_size"] ["_law_deck_here"] (defScope sLot) := ⟨rfl, rfl, rfl, by decide +kernel, rfl, by decide +kernel, by decide +kernel⟩
theorem ok_lot {f fD fP fB : Addr} {fd fdD fdP fdB : FuncData} (F : FnP K "_law_lot" sLot f fd) (FD : FnP K "_law_draw" sDraw fD fdD) (FP : FnP K "_law_pick" sPick fP fdP) (FB : FnP K "_law_bit" sBit fB fdB)
    (gD : mg "_law_draw" = some (.ref fD)) (gP : mg "_law_pick" = some (.ref fP)) (gB : mg "_law_bit" = some (.ref fB)) (gI : mg "int" = none) (gL : mg "len" = none) (gR : mg "range" = none) :
    FnOk P w K mg base CX0 4 f fd ["_law_deck_here"] spLot := by
  have GD : FnOk P w K mg base CX0 1 fD fdD ["_law_deck_here", "_law_below"] spDraw := ok_draw FD gI
  have GP : FnOk P w K mg base CX0 2 fP fdP ["_law_deck_here", "_law_some"] spPick := ok_pick FP FD gD gI gL
  have GB : FnOk P w K mg base CX0 3 fB fdB ["_law_deck_here", "_law_signs", "_law_top"] spBit := ok_bit FB FD FP gD gP gI gL gR
  have bD : Binds K fdD ["_law_deck_here", "_law_below"] [] := FD.bindsN fun _ _ _ _ _ _ us hl => match us, hl with | [_, _], _ => rfl
  have bP : Binds K fdP ["_law_deck_here", "_law_some"] [] := FP.bindsN fun _ _ _ _ _ _ us hl => match us, hl with | [_, _], _ => rfl
  have bB : Binds K fdB ["_law_deck_here", "_law_signs", "_law_top"] [] := FB.bindsN fun _ _ _ _ _ _ us hl => match us, hl with | [_, _, _], _ => rfl
  refine F.ok scLot (fun vs H Q E h => ?_) (fun cdv A outer s H vs Q E hr h => ?_)
  · obtain ⟨d, l, ns, br, dr, rfl, _⟩ := h; rfl
  · obtain ⟨d, l, ns, br, dr, rfl, D, hdr, k⟩ := h
    have lz := line_big
    refine ⟨_, PSs.nox (pss_cons (ps_par (i := 1) (j := 2) rfl scLot.nd rfl rfl (by decide) rfl rfl (pa_cons (pe_call GB hr (by rfl) gB FB.kp bB .nil pass0 (pa_cons (pv 0) (pa_cons pe_str (pa_cons (pe_call GP (hr.mono (by decide)) (by rfl) gP FP.kp bP .nil pass0 (pa_cons (pv 0) (pa_cons (pe_lst (pa_cons pe_int (pa_cons pe_int (pa_cons pe_int (pa_cons pe_int pa_nil))))) pa_nil))) pa_nil)))) (pa_cons (pe_lst pa_nil) pa_nil)) rfl)
      (pss_cons (ps_for PassesOwn.never rfl (pi_range1 rfl gR (pa_cons (pe_op op_add pe_int (pe_call GD (hr.mono (by decide)) (by rfl) gD FD.kp bD .nil pass0 (pa_cons (pv 0) (pa_cons pe_int pa_nil)))) pa_nil)) (pg_name (i := 3) scLot.nd rfl (Or.inl rfl))
        (pss_cons (ps_set (i := 4) scLot.nd rfl (Or.inl rfl) (pe_ifExp (pt_cmpR op_gt (pe_call GD (hr.mono (by decide)) (by rfl) gD FD.kp bD .nil pass0 (pa_cons (pv 0) (pa_cons pe_int pa_nil))) pe_int (nomark _)) (pe_callB call_len_str (by rfl) gL boot_len (pa_cons (pv 1) pa_nil))
            (pe_call GD (hr.mono (by decide)) (by rfl) gD FD.kp bD .nil pass0 (pa_cons (pv 0) (pa_cons (pe_op op_add (pe_callB call_len_str (by rfl) gL boot_len (pa_cons (pv 1) pa_nil)) pe_int) pa_nil)))))
        (pss_one (ps_expr (pe_bm PySem.F.plainAttrs_list PySem.F.slot_list_append PySem.F.type_list_append mt_append (pv 2) (pa_cons (pe_op op_add_str (pe_slice sl_str (pv 1) po_none (po_some (pv 4)))
            (pe_call GB hr (by rfl) gB FB.kp bB .nil pass0 (pa_cons (pv 0) (pa_cons (pe_call GP (hr.mono (by decide)) (by rfl) gP FP.kp bP .nil pass0 (pa_cons (pv 0) (pa_cons (pe_lst (pa_cons pe_str (pa_cons pe_str (pa_cons pe_str pa_nil)))) pa_nil))) (pa_cons pe_int pa_nil))))) pa_nil))))))
      (pss_one (ps_ret (pv 2))))), ?_⟩
    refine ⟨_, rfl, _, rfl, by show 4 ≤ sizeLine; omega, fun p hp => ⟨d, l, ns, br, dr, .ref p, _, rfl, D.beside hp, by omega, .lst upd_same (ne_of_none D.cells hp).symm (by simp) (by simp), fun v ns1 H1 hv D1 kp1 => ?_⟩⟩
    obtain ⟨t, rfl, ht1, ht2⟩ : ∃ t : Int, v = .int t ∧ 0 ≤ t ∧ t ≤ 40 := by
      simp only [List.mem_cons, List.not_mem_nil, or_false] at hv
      rcases hv with rfl | rfl | rfl | rfl <;> exact ⟨_, rfl, by omega, by omega⟩
    have kp1 : Keep d l H H1 := (Keep.beside hp).trans kp1
    refine ⟨d, l, ns1, br, dr + 1, "ab", t, rfl, D1, by omega, by decide, by decide, by decide, ht1, ht2, fun tr ns2 dr2 H2 hta htl D2 hdr2 kp2 => ?_⟩
    have kp2 : Keep d l H H2 := kp1.trans kp2
    refine ⟨by show 0 ≤ sizeLine; omega, fun B hB => ⟨_, _, rfl, ?_⟩⟩
    have D3 := D2.beside (o := .lst []) hB
    have hBd : B ≠ d := (ne_of_none D2.at_ hB).symm
    have hBl : B ≠ l := (ne_of_none D2.cells hB).symm
    refine ⟨_, rfl, d, l, ns2, br, dr2, 4, rfl, D3, by omega, by omega, by omega, fun jd ns3 H3 hj1 hj2 D4 kp3 => ⟨_, _, rfl, rfl, 2 + jd, rfl, by omega, by omega, ?_⟩⟩
    have hB3 : H3 B = some (.lst []) := kp3 B _ hBd hBl upd_same
    have kp3 : Keep d l H H3 := kp2.trans ((Keep.beside hB).trans kp3)
    refine for_range (fun i σ G => ∃ (v3 v4 : Option V) (ms : List Int) (dd : Int) (zs : List Str), σ = [some (.ref d), some (.str tr), some (.ref B), v3, v4] ∧ DeckAt G d l ms br dd ∧ dd ≤ dr2 + 1 + 45 * i ∧ G B = some (.lst (zs.map V.str)) ∧ zs.length = i ∧ (∀ z ∈ zs, asc z = true ∧ z.length ≤ 80) ∧ Keep d l H G)
      ⟨none, none, ns3, dr2 + 1, [], rfl, D4, by omega, hB3, rfl, (fun z hz => by cases hz), kp3⟩ ?_ ?_
    · rintro i σ G hi ⟨v3, v4, ms, dd, zs, rfl, D5, hdd, hBz, hlen, hall, kp⟩
      have hi5 : i < 5 := by omega
      refine ⟨_, rfl, d, l, ms, br, dd, 3, rfl, D5, by omega, by omega, by omega, fun je ms2 G2 hje1 hje2 D6 kp6 => ⟨_, _, rfl, rfl, _, rfl, ?_⟩⟩
      have hB6 := kp6 B _ hBd hBl hBz
      have kp6 : Keep d l H G2 := kp.trans kp6
      refine ite2 (fun hc => ?_) (fun hc => ?_)
      · refine ⟨_, rfl, tr, rfl, by omega, ?_⟩
        refine ⟨_, rfl, .inl ⟨rfl, _, SqL.of hB6⟩, _, rfl, _, rfl, _, rfl, tr, rfl, by omega, _, rfl, _, rfl, by show 3 ≤ sizeLine; omega, fun p2 hp2 => ⟨d, l, ms2, br, _, .ref p2, _, rfl, D6.beside hp2, by omega, .lst upd_same (ne_of_none D6.cells hp2).symm (by simp) (by simp), fun v ms4 H4 hv D7 kp7 => ?_⟩⟩
        obtain ⟨sg, rfl, hg1, hg2, hg3⟩ : ∃ sg : Str, v = .str sg ∧ 1 ≤ sg.length ∧ sg.length ≤ 1000 ∧ asc sg = true := by
          simp only [List.mem_cons, List.not_mem_nil, or_false] at hv
          rcases hv with rfl | rfl | rfl <;> exact ⟨_, rfl, by decide, by decide, by decide⟩
        have hB7 : H4 B = some (.lst (zs.map V.str)) := kp7 B _ hBd hBl (by rw [upd_ne (ne_of_none hB6 hp2)]; exact hB6)
        have kp7 : Keep d l H H4 := kp6.trans ((Keep.beside hp2).trans kp7)
        refine ⟨d, l, ms4, br, _, sg, 4, rfl, D7, by omega, hg1, hg2, hg3, by omega, by omega, fun y ms5 d5 H5 hya hyl D8 hd5 kp8 => ?_⟩
        have hB8 := kp8 B _ hBd hBl hB7
        have kp8 : Keep d l H H5 := kp7.trans kp8
        have htk := tk_len tr tr.length
        rw [cut_head (z := tr) (n := tr.length) (by omega)]
        refine ⟨_, _, rfl, rfl, by omega, B, _, _, rfl, rfl, hB8, by rw [List.length_map]; omega, ?_⟩
        refine ⟨_, _, ms5, d5, zs ++ [tkS tr tr.length ++ y], rfl, D8.other hBd hBl, by omega, by rw [upd_same, List.map_append]; rfl, by rw [List.length_append, hlen]; rfl, fun z hz => ?_, fun b o h1 h2 h3 => ?_⟩
        · rcases List.mem_append.mp hz with hz | hz
          · exact hall z hz
          · rw [List.mem_singleton.mp hz]
            exact ⟨asc_cat (asc_tk hta _) hya, by rw [cat_len]; omega⟩
        · rw [upd_ne (ne_of_none (kp2 b o h1 h2 h3) hB)]
          exact kp8 b o h1 h2 h3
      · refine ⟨_, rfl, _, rfl, tr, rfl, by omega, _, _, rfl, rfl, d, l, ms2, br, dd + 1, _, rfl, D6, by omega, by omega, by omega, fun jf ms3 G3 hf1 hf2 D9 kp9 => ?_⟩
        have hB9 := kp9 B _ hBd hBl hB6
        have kp9 : Keep d l H G3 := kp6.trans kp9
        obtain ⟨n, rfl⟩ : ∃ n : Nat, jf = (n : Int) := ⟨jf.toNat, by omega⟩
        refine ⟨_, rfl, .inl ⟨rfl, _, SqL.of hB9⟩, _, rfl, _, rfl, _, rfl, tr, rfl, by omega, _, rfl, _, rfl, by show 3 ≤ sizeLine; omega, fun p2 hp2 => ⟨d, l, ms3, br, _, .ref p2, _, rfl, D9.beside hp2, by omega, .lst upd_same (ne_of_none D9.cells hp2).symm (by simp) (by simp), fun v ms4 H4 hv D7 kp7 => ?_⟩⟩
        obtain ⟨sg, rfl, hg1, hg2, hg3⟩ : ∃ sg : Str, v = .str sg ∧ 1 ≤ sg.length ∧ sg.length ≤ 1000 ∧ asc sg = true := by
          simp only [List.mem_cons, List.not_mem_nil, or_false] at hv
          rcases hv with rfl | rfl | rfl <;> exact ⟨_, rfl, by decide, by decide, by decide⟩
        have hB7 : H4 B = some (.lst (zs.map V.str)) := kp7 B _ hBd hBl (by rw [upd_ne (ne_of_none hB9 hp2)]; exact hB9)
        have kp7 : Keep d l H H4 := kp9.trans ((Keep.beside hp2).trans kp7)
        refine ⟨d, l, ms4, br, _, sg, 4, rfl, D7, by omega, hg1, hg2, hg3, by omega, by omega, fun y ms5 d5 H5 hya hyl D8 hd5 kp8 => ?_⟩
        have hB8 := kp8 B _ hBd hBl hB7
        have kp8 : Keep d l H H5 := kp7.trans kp8
        have htk := tk_len tr n
        rw [cut_head (z := tr) (n := n) (by omega)]
        refine ⟨_, _, rfl, rfl, by omega, B, _, _, rfl, rfl, hB8, by rw [List.length_map]; omega, ?_⟩
        refine ⟨_, _, ms5, d5, zs ++ [tkS tr n ++ y], rfl, D8.other hBd hBl, by omega, by rw [upd_same, List.map_append]; rfl, by rw [List.length_append, hlen]; rfl, fun z hz => ?_, fun b o h1 h2 h3 => ?_⟩
        · rcases List.mem_append.mp hz with hz | hz
          · exact hall z hz
          · rw [List.mem_singleton.mp hz]
            exact ⟨asc_cat (asc_tk hta _) hya, by rw [cat_len]; omega⟩
        · rw [upd_ne (ne_of_none (kp2 b o h1 h2 h3) hB)]
          exact kp8 b o h1 h2 h3
    · rintro σ G ⟨v3, v4, ms, dd, zs, rfl, D5, hdd, hBz, hlen, hall, kp⟩
      refine ⟨_, rfl, ?_⟩
      exact k B zs ms dd G hBz hBd hBl (by omega) (by omega) hall D5 (by omega) kp
end
end K12
namespace K12
open PySem PySem.Spec PyProof.Rows L2 Sw
section
variable {P : Program} {w : World} {K : PySem.W.Frag} {mg : Str → Option Value} {base : Heap}
def spSaid : Sp := fun vs H Q _ => ∃ (a : Addr) (zs : List Str), vs = [.ref a] ∧ 1 ≤ zs.length ∧ zs.length ≤ 5 ∧ H a = some (.lst (zs.map V.str)) ∧ (∀ y ∈ zs, y.length ≤ 1000) ∧
  ∀ q H', IsPre (zs.map cod) q → Same H H' → Q (.str (mkS q)) H'
theorem scSaid : FnScope ["_law_some"] ["_law_some"] (defScope sSaid) := ⟨rfl, rfl, rfl, by decide +kernel, rfl, by decide +kernel, by decide +kernel⟩
theorem ok_said {f fp : Addr} {fd fdp : FuncData} (F : FnP K "_law_said" sSaid f fd) (Fp : FnP K "common_prefix" sPrefix fp fdp) (gP : mg "common_prefix" = some (.ref fp)) (gM : mg "min" = none) (gX : mg "max" = none) (gL : mg "len" = none) :
    FnOk P w K mg base CX0 2 f fd ["_law_some"] spSaid := by
  have G : FnR P w K mg base CX0 1 fp spPre := ok_pre Fp gM gX gL
  refine F.ok scSaid (fun vs H Q E h => ?_) (fun cdv A outer s H vs Q E hr h => ?_)
  · obtain ⟨a, zs, rfl, _⟩ := h; rfl
  · obtain ⟨a, zs, rfl, h1, h5, ha, hl, k⟩ := h
    refine ⟨_, PSs.nox (pss_cons (ps_if (pt_cmpR op_eq (pe_callB call_len_seq (by rfl) gL boot_len (pa_cons (pv 0) pa_nil)) pe_int (nomark _)) (pss_one (ps_ret (pe_callR G hr (by rfl) gP Fp.kp pass0 (pa_cons (pe_ix ix_list (pv 0) pe_int (fun _ _ => rfl)) pa_nil)))) pss_nil)
      (pss_cons (ps_if (pt_cmpR op_eq (pe_callB call_len_seq (by rfl) gL boot_len (pa_cons (pv 0) pa_nil)) pe_int (nomark _)) (pss_one (ps_ret (pe_callR G hr (by rfl) gP Fp.kp pass0 (pa_cons (pe_ix ix_list (pv 0) pe_int (fun _ _ => rfl)) (pa_cons (pe_ix ix_list (pv 0) pe_int (fun _ _ => rfl)) pa_nil))))) pss_nil)
      (pss_cons (ps_if (pt_cmpR op_eq (pe_callB call_len_seq (by rfl) gL boot_len (pa_cons (pv 0) pa_nil)) pe_int (nomark _)) (pss_one (ps_ret (pe_callR G hr (by rfl) gP Fp.kp pass0 (pa_cons (pe_ix ix_list (pv 0) pe_int (fun _ _ => rfl)) (pa_cons (pe_ix ix_list (pv 0) pe_int (fun _ _ => rfl)) (pa_cons (pe_ix ix_list (pv 0) pe_int (fun _ _ => rfl)) pa_nil)))))) pss_nil)
      (pss_cons (ps_if (pt_cmpR op_eq (pe_callB call_len_seq (by rfl) gL boot_len (pa_cons (pv 0) pa_nil)) pe_int (nomark _)) (pss_one (ps_ret (pe_callR G hr (by rfl) gP Fp.kp pass0 (pa_cons (pe_ix ix_list (pv 0) pe_int (fun _ _ => rfl)) (pa_cons (pe_ix ix_list (pv 0) pe_int (fun _ _ => rfl)) (pa_cons (pe_ix ix_list (pv 0) pe_int (fun _ _ => rfl)) (pa_cons (pe_ix ix_list (pv 0) pe_int (fun _ _ => rfl)) pa_nil))))))) pss_nil)
      (pss_one (ps_ret (pe_callR G hr (by rfl) gP Fp.kp pass0 (pa_cons (pe_ix ix_list (pv 0) pe_int (fun _ _ => rfl)) (pa_cons (pe_ix ix_list (pv 0) pe_int (fun _ _ => rfl)) (pa_cons (pe_ix ix_list (pv 0) pe_int (fun _ _ => rfl)) (pa_cons (pe_ix ix_list (pv 0) pe_int (fun _ _ => rfl)) (pa_cons (pe_ix ix_list (pv 0) pe_int (fun _ _ => rfl)) pa_nil)))))))))))), ?_⟩
    match zs, h1, h5, ha, hl, k with
    | [x1], _, _, ha, hl, k =>
      exact ⟨_, rfl, a, _, rfl, .inl (SqL.of ha), rfl, _, rfl, iteT ⟨_, rfl, a, _, _, _, rfl, rfl, SqL.of ha, atI_nat (j := 0) rfl, x1, [], rfl, by show 0 ≤ 1000; omega, hl, fun q p hq hp => k q _ hq (fun b o hb => by rw [upd_ne (ne_of_none hb hp)]; exact hb)⟩⟩
    | [x1, x2], _, _, ha, hl, k =>
      exact ⟨_, rfl, a, _, rfl, .inl (SqL.of ha), rfl, _, rfl, iteF ⟨_, rfl, a, _, rfl, .inl (SqL.of ha), rfl, _, rfl, iteT ⟨_, rfl, a, _, _, _, rfl, rfl, SqL.of ha, atI_nat (j := 0) rfl, _, rfl, a, _, _, _, rfl, rfl, SqL.of ha, atI_nat (j := 1) rfl, x1, [x2], rfl, by show 1 ≤ 1000; omega, hl, fun q p hq hp => k q _ hq (fun b o hb => by rw [upd_ne (ne_of_none hb hp)]; exact hb)⟩⟩⟩
    | [x1, x2, x3], _, _, ha, hl, k =>
      exact ⟨_, rfl, a, _, rfl, .inl (SqL.of ha), rfl, _, rfl, iteF ⟨_, rfl, a, _, rfl, .inl (SqL.of ha), rfl, _, rfl, iteF ⟨_, rfl, a, _, rfl, .inl (SqL.of ha), rfl, _, rfl, iteT ⟨_, rfl, a, _, _, _, rfl, rfl, SqL.of ha, atI_nat (j := 0) rfl, _, rfl, a, _, _, _, rfl, rfl, SqL.of ha, atI_nat (j := 1) rfl, _, rfl, a, _, _, _, rfl, rfl, SqL.of ha, atI_nat (j := 2) rfl, x1, [x2, x3], rfl, by show 2 ≤ 1000; omega, hl, fun q p hq hp => k q _ hq (fun b o hb => by rw [upd_ne (ne_of_none hb hp)]; exact hb)⟩⟩⟩⟩
    | [x1, x2, x3, x4], _, _, ha, hl, k =>
      exact ⟨_, rfl, a, _, rfl, .inl (SqL.of ha), rfl, _, rfl, iteF ⟨_, rfl, a, _, rfl, .inl (SqL.of ha), rfl, _, rfl, iteF ⟨_, rfl, a, _, rfl, .inl (SqL.of ha), rfl, _, rfl, iteF ⟨_, rfl, a, _, rfl, .inl (SqL.of ha), rfl, _, rfl, iteT ⟨_, rfl, a, _, _, _, rfl, rfl, SqL.of ha, atI_nat (j := 0) rfl, _, rfl, a, _, _, _, rfl, rfl, SqL.of ha, atI_nat (j := 1) rfl, _, rfl, a, _, _, _, rfl, rfl, SqL.of ha, atI_nat (j := 2) rfl, _, rfl, a, _, _, _, rfl, rfl, SqL.of ha, atI_nat (j := 3) rfl, x1, [x2, x3, x4], rfl, by show 3 ≤ 1000; omega, hl, fun q p hq hp => k q _ hq (fun b o hb => by rw [upd_ne (ne_of_none hb hp)]; exact hb)⟩⟩⟩⟩⟩
    | [x1, x2, x3, x4, x5], _, _, ha, hl, k =>
      exact ⟨_, rfl, a, _, rfl, .inl (SqL.of ha), rfl, _, rfl, iteF ⟨_, rfl, a, _, rfl, .inl (SqL.of ha), rfl, _, rfl, iteF ⟨_, rfl, a, _, rfl, .inl (SqL.of ha), rfl, _, rfl, iteF ⟨_, rfl, a, _, rfl, .inl (SqL.of ha), rfl, _, rfl, iteF ⟨_, rfl, a, _, _, _, rfl, rfl, SqL.of ha, atI_nat (j := 0) rfl, _, rfl, a, _, _, _, rfl, rfl, SqL.of ha, atI_nat (j := 1) rfl, _, rfl, a, _, _, _, rfl, rfl, SqL.of ha, atI_nat (j := 2) rfl, _, rfl, a, _, _, _, rfl, rfl, SqL.of ha, atI_nat (j := 3) rfl, _, rfl, a, _, _, _, rfl, rfl, SqL.of ha, atI_nat (j := 4) rfl, x1, [x2, x3, x4, x5], rfl, by show 4 ≤ 1000; omega, hl, fun q p hq hp => k q _ hq (fun b o hb => by rw [upd_ne (ne_of_none hb hp)]; exact hb)⟩⟩⟩⟩⟩
    | _ :: _ :: _ :: _ :: _ :: _ :: _, _, h5, _, _, _ => simp at h5
end
end K12
namespace K12
open PySem PySem.Spec PyProof.Rows L2 Sw
theorem lcp_comm : ∀ x y : List Nat, lcp x y = lcp y x
  | [], [] => rfl
  | [], _ :: _ => rfl
  | _ :: _, [] => rfl
  | a :: as, b :: bs => by
    unfold lcp
    by_cases h : a = b
    · subst h; simp [lcp_comm as bs]
    · rw [if_neg h, if_neg (fun e => h e.symm)]
theorem head_rest (z : Str) (n : Nat) : mkS (z.cps.toList.take n) ++ drS z n = z := by
  apply mkS_inj
  rw [cat_codes]
  show z.cps.toList.take n ++ z.cps.toList.drop n = _
  rw [List.take_append_drop]
/-- the rests of two texts, as data -/
def rests (a b : Str) : PyData := .tuple [.str (drS a (lc a b)), .str (drS b (lc a b))]
/-- laid beside -/
theorem upS {H : Hp} {b p : Addr} {o o' : HO} (h : H b = some o) (hp : H p = none) : upd H p o' b = some o := by rw [upd_ne (ne_of_none h hp)]; exact h
theorem good_rests {a b : Str} (h1 : asc a = true) (h2 : asc b = true) (l1 : a.length ≤ 1000) (l2 : b.length ≤ 1000) : Good (.list [rests a b, rests a b, rests a b]) where
  ok := by simp only [okD, okAll, rests, asc_dr h1, asc_dr h2, Bool.and_self]
  dp := by simp [rests, PyData.depth, PyData.depthAll]
  bk := by
    have r1 := dr_len a (lc a b)
    have r2 := dr_len b (lc a b)
    simp only [rests, PyData.bulk, PyData.bulkAll]
    have e1 : (drS a (lc a b)).cps.size ≤ 1000 := Nat.le_trans r1 l1
    have e2 : (drS b (lc a b)).cps.size ≤ 1000 := Nat.le_trans r2 l2
    omega
section
variable {P : Program} {w : World} {K : PySem.W.Frag} {mg : Str → Option Value} {base : Heap}
def spTwo : Sp := fun vs H Q _ => ∃ x y : Str, vs = [.str x, .str y] ∧ asc x = true ∧ asc y = true ∧ x.length ≤ 1000 ∧ y.length ≤ 1000 ∧ ∀ H', Same H H' → Q (.bl true) H'
theorem scTwo : FnScope ["_law_x", "_law_y", "_law_due", "_law_stem", "_law_told"] ["_law_x", "_law_y"] (defScope sTwo) := ⟨rfl, rfl, rfl, by decide +kernel, rfl, by decide +kernel, by decide +kernel⟩
theorem ok_two {f fg fl fd' fp : Addr} {fd fdg fdl fdd fdp : FuncData} (F : FnP K "_law_two_right" sTwo f fd) (Fg : FnP K "_law_gap" sGap fg fdg) (Fl : FnP K "_law_prefix" sLPrefix fl fdl) (Fd : FnP K "delay" sDelay fd' fdd) (Fp : FnP K "common_prefix" sPrefix fp fdp)
    (gG : mg "_law_gap" = some (.ref fg)) (gLP : mg "_law_prefix" = some (.ref fl)) (gD : mg "delay" = some (.ref fd')) (gP : mg "common_prefix" = some (.ref fp)) (gM : mg "min" = none) (gX : mg "max" = none) (gL : mg "len" = none) (gS : mg "set" = none) (gR : mg "repr" = none) :
    FnG P w K mg base 3 f fd ["_law_x", "_law_y"] spTwo := by
  have GG : FnOk P w K mg base CX0 1 fg fdg ["_law_x", "_law_y"] spGap := ok_gap Fg gM gL
  have GL : FnOk P w K mg base CX0 1 fl fdl ["_law_some"] spLPre := ok_lpre Fl gM gL gS
  have GD : FnOk P w K mg base CX0 2 fd' fdd ["one", "other"] spDelay := ok_delay Fd Fp gP gM gX gL
  have bG : Binds K fdg ["_law_x", "_law_y"] [] := Fg.bindsN fun _ _ _ _ _ _ us hl => match us, hl with | [_, _], _ => rfl
  have bL : Binds K fdl ["_law_some"] [] := Fl.bindsN fun _ _ _ _ _ _ us hl => match us, hl with | [_], _ => rfl
  have bD : Binds K fdd ["one", "other"] [] := Fd.bindsN fun _ _ _ _ _ _ us hl => match us, hl with | [_, _], _ => rfl
  have kD : KBn K fdd ["one", "other"] 0 ["one", "other"] (fun us ws => us ++ ws) (fun vs zs => vs ++ zs) := kb_all Fd fun _ _ _ _ _ _ ws hl => match ws, hl with | [_, _], _ => rfl
  refine fng_of F scTwo (fun vs H Q E h => ?_) (fun cdv A outer s H vs Q E hG hr h => ?_)
  · obtain ⟨x, y, rfl, _⟩ := h; rfl
  · obtain ⟨x, y, rfl, ax, ay, lx, ly, k⟩ := h
    have lz := line_big
    refine ⟨_, PSs.nox (pss_cons (ps_par (i := 2) (j := 3) rfl scTwo.nd rfl rfl (by decide) rfl rfl (pa_cons (pe_call GG (hr.mono (by decide)) (by rfl) gG Fg.kp bG .nil pass0 (pa_cons (pv 0) (pa_cons (pv 1) pa_nil)))
          (pa_cons (pe_call GL (hr.mono (by decide)) (by rfl) gLP Fl.kp bL .nil pass0 (pa_cons (pe_lst (pa_cons (pv 0) (pa_cons (pv 1) pa_nil))) pa_nil)) pa_nil)) rfl)
      (pss_cons (ps_set (i := 4) scTwo.nd rfl (Or.inl rfl) (pe_lst (pa_cons (pe_call GD hr (by rfl) gD Fd.kp bD .nil pass0 (pa_cons (pv 0) (pa_cons (pv 1) pa_nil)))
          (pa_cons (pe_callKw GD hr (by rfl) gD Fd.kp kD pass0 (pk_cons (pv 0) (pk_cons (pv 1) pk_nil)))
          (pa_cons (pe_back (pe_call GD hr (by rfl) gD Fd.kp bD .nil pass0 (pa_cons (pv 1) (pa_cons (pv 0) pa_nil)))) pa_nil)))))
      (pss_one (ps_ret (pe_and (pe_cmpR op_eq (pe_callB (call_rp hG hr.units) (by rfl) gR boot_repr (pa_cons (pv 4) pa_nil)) (pe_callB (call_rp hG hr.units) (by rfl) gR boot_repr (pa_cons (pe_op op_rep (pe_lst (pa_cons (pv 2) pa_nil)) pe_int) pa_nil)) (nomark _))
        (pe_one (pe_cmpR (op_eqG hr.units) (pe_lst (pa_cons (pe_op op_add_str (pv 3) (pe_ix ix_tup (pe_ix ix_list (pv 4) pe_int (fun _ _ => rfl)) pe_int (fun _ _ => rfl))) (pa_cons (pe_op op_add_str (pv 3) (pe_ix ix_tup (pe_ix ix_list (pv 4) pe_int (fun _ _ => rfl)) pe_int (fun _ _ => rfl))) pa_nil)))
            (pe_lst (pa_cons (pv 0) (pa_cons (pv 1) pa_nil))) (nomark _)))))))), ?_⟩
    refine ⟨_, rfl, _, rfl, x, y, rfl, lx, ly, fun p hp => ⟨_, rfl, _, rfl, by show 2 ≤ sizeLine; omega, fun q hq => ⟨q, x, [y], rfl, upd_same, by simp, fun z hz => ?_, fun g H2 hg s2 => ⟨_, _, rfl, ?_⟩⟩⟩⟩
    · rcases List.mem_cons.mp hz with rfl | hz
      · exact lx
      · rw [List.mem_singleton.mp hz]; exact ly
    obtain rfl : g = x.cps.toList.take (lc x y) := hg.one (isPre_two x.cps.toList y.cps.toList) (by simp)
    have ecom : lc y x = lc x y := lcp_comm _ _
    have p2 : H2 p = some (.tup [.str (drS x (lc x y)), .str (drS y (lc x y))]) := s2 _ _ (by rw [upd_ne (ne_of_none upd_same hq)]; exact upd_same)
    have sH2 : Same H H2 := fun b o hb => s2 b o (by
      have z : upd H p (.tup [.str (drS x (lc x y)), .str (drS y (lc x y))]) b = some o := by rw [upd_ne (ne_of_none hb hp)]; exact hb
      rw [upd_ne (ne_of_none z hq)]; exact z)
    refine ⟨_, rfl, _, rfl, x, y, rfl, lx, ly, fun H3 p3 s3 h3 => ⟨_, rfl, _, rfl, rfl, x, y, rfl, lx, ly, fun H4 p4 s4 h4 => ⟨_, rfl, _, rfl, y, x, rfl, ly, lx, fun H5 p5 s5 h5 => ⟨p5, _, _, rfl, SqT.of upd_same, fun p6 h6 => ⟨by show 3 ≤ sizeLine; omega, fun p7 h7 => ?_⟩⟩⟩⟩⟩
    rw [ecom] at *
    have g3 := upS (o' := .lst [V.ref p3, V.ref p4, V.ref p6]) (upS (o' := .tup [V.str (drS x (lc x y)), V.str (drS y (lc x y))]) (upS (o' := .tup [V.str (drS y (lc x y)), V.str (drS x (lc x y))]) (s5 _ _ (upS (s4 _ _ upd_same) h4)) h5) h6) h7
    have g4 := upS (o' := .lst [V.ref p3, V.ref p4, V.ref p6]) (upS (o' := .tup [V.str (drS x (lc x y)), V.str (drS y (lc x y))]) (upS (o' := .tup [V.str (drS y (lc x y)), V.str (drS x (lc x y))]) (s5 _ _ upd_same) h5) h6) h7
    have g6 := upS (o' := .lst [V.ref p3, V.ref p4, V.ref p6]) (upd_same (H := upd H5 p5 (.tup [V.str (drS y (lc x y)), V.str (drS x (lc x y))])) (a := p6) (o := .tup [V.str (drS x (lc x y)), V.str (drS y (lc x y))])) h7
    have g0 := upS (o' := .lst [V.ref p3, V.ref p4, V.ref p6]) (upS (o' := .tup [V.str (drS x (lc x y)), V.str (drS y (lc x y))]) (upS (o' := .tup [V.str (drS y (lc x y)), V.str (drS x (lc x y))]) (s5 _ _ (upS (s4 _ _ (upS (s3 _ _ p2) h3)) h4)) h5) h6) h7
    have g7 := upd_same (H := upd (upd H5 p5 (.tup [V.str (drS y (lc x y)), V.str (drS x (lc x y))])) p6 (.tup [V.str (drS x (lc x y)), V.str (drS y (lc x y))])) (a := p7) (o := .lst [V.ref p3, V.ref p4, V.ref p6])
    have sG : Same H (upd (upd (upd H5 p5 (.tup [V.str (drS y (lc x y)), V.str (drS x (lc x y))])) p6 (.tup [V.str (drS x (lc x y)), V.str (drS y (lc x y))])) p7 (.lst [V.ref p3, V.ref p4, V.ref p6])) :=
      fun b o hb => upS (upS (upS (s5 _ _ (upS (s4 _ _ (upS (s3 _ _ (sH2 b o hb)) h3)) h4)) h5) h6) h7
    generalize upd (upd (upd H5 p5 (.tup [V.str (drS y (lc x y)), V.str (drS x (lc x y))])) p6 (.tup [V.str (drS x (lc x y)), V.str (drS y (lc x y))])) p7 (.lst [V.ref p3, V.ref p4, V.ref p6]) = G at g3 g4 g6 g0 g7 sG ⊢
    have dT : ∀ {G' : Hp} {c : Addr}, G' c = some (.tup [V.str (drS x (lc x y)), V.str (drS y (lc x y))]) → Dp K G' (.ref c) (rests x y) := fun h => .tup (SqT.of h) (.cons (.str _) (.cons (.str _) .nil))
    have gd := good_rests ax ay lx ly
    refine ⟨_, rfl, _, _, rfl, .lst (SqL.of g7) (.cons (dT g3) (.cons (dT g4) (.cons (dT g6) .nil))), gd, ?_⟩
    refine ⟨_, rfl, by show 1 ≤ sizeLine; omega, fun r h8 => ⟨r, 3, _, rfl, rfl, upd_same, by decide, by decide, by show 3 ≤ sizeLine; omega, fun r2 h9 => ?_⟩⟩
    have g02 : upd (upd G r (.lst [V.ref p])) r2 (.lst (List.replicate (3 : Int).toNat [V.ref p]).flatten) p = some (.tup [V.str (drS x (lc x y)), V.str (drS y (lc x y))]) := upS (upS g0 h8) h9
    refine ⟨_, _, rfl, .lst (SqL.of (xs := [V.ref p, V.ref p, V.ref p]) upd_same) (.cons (dT g02) (.cons (dT g02) (.cons (dT g02) .nil))), gd, rfl, _, rfl, ite2 (fun _ => ?_) (fun h => absurd (decide_eq_true rfl) h)⟩
    have g32 : upd (upd G r (.lst [V.ref p])) r2 (.lst (List.replicate (3 : Int).toNat [V.ref p]).flatten) p3 = some (.tup [V.str (drS x (lc x y)), V.str (drS y (lc x y))]) := upS (upS g3 h8) h9
    have g72 : upd (upd G r (.lst [V.ref p])) r2 (.lst (List.replicate (3 : Int).toNat [V.ref p]).flatten) p7 = some (.lst [V.ref p3, V.ref p4, V.ref p6]) := upS (upS g7 h8) h9
    have sG2 : Same H (upd (upd G r (.lst [V.ref p])) r2 (.lst (List.replicate (3 : Int).toNat [V.ref p]).flatten)) := fun b o hb => upS (upS (sG b o hb) h8) h9
    generalize upd (upd G r (.lst [V.ref p])) r2 (.lst (List.replicate (3 : Int).toNat [V.ref p]).flatten) = G2 at g32 g72 sG2 ⊢
    have e1 : mkS (x.cps.toList.take (lc x y)) ++ drS x (lc x y) = x := head_rest x _
    have e2 : mkS (x.cps.toList.take (lc x y)) ++ drS y (lc x y) = y := by
      have z : x.cps.toList.take (lc x y) = y.cps.toList.take (lc x y) := lcp_take _ _
      rw [z]; exact head_rest y _
    have m1 : (mkS (x.cps.toList.take (lc x y))).length ≤ 1000 := Nat.le_trans (tk_len x _) lx
    have m2 := dr_len x (lc x y)
    have m3 := dr_len y (lc x y)
    refine ⟨_, rfl, _, rfl, p7, _, _, _, rfl, rfl, SqL.of g72, atI_nat (j := 0) rfl, p3, _, _, _, rfl, rfl, SqT.of g32, atI_nat (j := 0) rfl, _, _, rfl, rfl, by omega,
      _, rfl, _, rfl, p7, _, _, _, rfl, rfl, SqL.of g72, atI_nat (j := 0) rfl, p3, _, _, _, rfl, rfl, SqT.of g32, atI_nat (j := 1) rfl, _, _, rfl, rfl, by omega, by show 2 ≤ sizeLine; omega, fun r3 h10 => ?_⟩
    rw [e1, e2]
    have gxy : Good (.list ([x, y].map PyData.str)) := good_strs (n := 1000) (fun z hz => by
      rcases List.mem_cons.mp hz with rfl | hz
      · exact ax
      · rw [List.mem_singleton.mp hz]; exact ay) (fun z hz => by
      rcases List.mem_cons.mp hz with rfl | hz
      · exact lx
      · rw [List.mem_singleton.mp hz]; exact ly) (by simp)
    refine ⟨_, rfl, _, rfl, by show 2 ≤ sizeLine; omega, fun r4 h11 => ⟨.list ([x, y].map PyData.str), .list ([x, y].map PyData.str), .lst (SqL.of (upS upd_same h11)) (dp_strs [x, y]), .lst (SqL.of upd_same) (dp_strs [x, y]), gxy, gxy, ?_⟩⟩
    rw [eqv_self _ gxy.ok]
    exact k _ fun b o hb => upS (upS (sG2 b o hb) h10) h11
end
end K12
namespace K12
open PySem PySem.Spec PyProof.Rows L2 Sw
theorem cutV_head {xs : List V} {n : Nat} (h : n ≤ xs.length) : cutV xs none (some (n : Int)) = xs.take n := by
  unfold cutV
  rw [HT.sIx_none, HT.sIx_nat, Nat.min_eq_left h, List.drop_zero, Nat.sub_zero]
theorem pre_asc {ws : List Str} {q : List Nat} (h : IsPre (ws.map cod) q) {x : Str} (hx : x ∈ ws) (ha : asc x = true) : Sw.asc (mkS q) = true := asc_mk fun c hc => asc_lt ha c ((h.pre (cod x) (List.mem_map_of_mem hx)).subset hc)
theorem pre_len {ws : List Str} {q : List Nat} (h : IsPre (ws.map cod) q) {x : Str} (hx : x ∈ ws) : (mkS q).length ≤ x.length := by
  have := (h.pre (cod x) (List.mem_map_of_mem hx)).length_le
  rw [mkS_len]; rwa [show (cod x).length = x.length from codes_len x] at this
section
variable {P : Program} {w : World} {K : PySem.W.Frag} {mg : Str → Option Value} {base : Heap}
def spRight : Sp := fun vs H Q _ => ∃ (a : Addr) (x : Str) (xs : List Str), vs = [.ref a] ∧ H a = some (.lst ((x :: xs).map V.str)) ∧ xs.length ≤ 4 ∧ (∀ y ∈ x :: xs, asc y = true ∧ y.length ≤ 1000) ∧ ∀ H', Same H H' → Q (.bl true) H'
theorem scRight : FnScope ["_law_some", "_law_count", "_law_bad", "_law_k"] ["_law_some"] (defScope sRight) := ⟨rfl, rfl, rfl, by decide +kernel, rfl, by decide +kernel, by decide +kernel⟩
theorem ok_right {f ft fs fg fl fd' fp : Addr} {fd fdt fds fdg fdl fdd fdp : FuncData} (F : FnP K "_law_right" sRight f fd) (Ft : FnP K "_law_two_right" sTwo ft fdt) (Fs : FnP K "_law_said" sSaid fs fds) (Fg : FnP K "_law_gap" sGap fg fdg) (Fl : FnP K "_law_prefix" sLPrefix fl fdl) (Fd : FnP K "delay" sDelay fd' fdd) (Fp : FnP K "common_prefix" sPrefix fp fdp)
    (gT : mg "_law_two_right" = some (.ref ft)) (gSd : mg "_law_said" = some (.ref fs)) (gG : mg "_law_gap" = some (.ref fg)) (gLP : mg "_law_prefix" = some (.ref fl)) (gD : mg "delay" = some (.ref fd')) (gP : mg "common_prefix" = some (.ref fp)) (gM : mg "min" = none) (gX : mg "max" = none) (gL : mg "len" = none) (gS : mg "set" = none) (gR : mg "repr" = none) (gRa : mg "range" = none) :
    FnG P w K mg base 4 f fd ["_law_some"] spRight := by
  have GT : FnG P w K mg base 3 ft fdt ["_law_x", "_law_y"] spTwo := ok_two Ft Fg Fl Fd Fp gG gLP gD gP gM gX gL gS gR
  have GL : FnOk P w K mg base CX0 1 fl fdl ["_law_some"] spLPre := ok_lpre Fl gM gL gS
  have GS : FnOk P w K mg base CX0 2 fs fds ["_law_some"] spSaid := ok_said Fs Fp gP gM gX gL
  have bT : Binds K fdt ["_law_x", "_law_y"] [] := Ft.bindsN fun _ _ _ _ _ _ us hl => match us, hl with | [_, _], _ => rfl
  have bL : Binds K fdl ["_law_some"] [] := Fl.bindsN fun _ _ _ _ _ _ us hl => match us, hl with | [_], _ => rfl
  have bS : Binds K fds ["_law_some"] [] := Fs.bindsN fun _ _ _ _ _ _ us hl => match us, hl with | [_], _ => rfl
  refine fng_of F scRight (fun vs H Q E h => ?_) (fun cdv A outer s H vs Q E hG hr h => ?_)
  · obtain ⟨a, x, xs, rfl, _⟩ := h; rfl
  · obtain ⟨a, x, xs, rfl, ha, hn, hall, k⟩ := h
    have lz := line_big
    refine ⟨_, PSs.nox (pss_cons (ps_for PassesOwn.never rfl (pi_range2 rfl gRa (pa_cons pe_int (pa_cons (pe_op op_add (pe_callB call_len_seq (by rfl) gL boot_len (pa_cons (pv 0) pa_nil)) pe_int) pa_nil))) (pg_name (i := 1) scRight.nd rfl (Or.inl rfl))
        (pss_one (ps_if (pt_cmpR op_ne (pe_callB (call_rp hG hr.units) (by rfl) gR boot_repr (pa_cons (pe_lst (pa_cons (pe_call GS (hr.mono (by decide)) (by rfl) gSd Fs.kp bS .nil pass0 (pa_cons (pe_slice sl_list (pv 0) po_none (po_some (pv 1))) pa_nil))
            (pa_cons (pe_call GS (hr.mono (by decide)) (by rfl) gSd Fs.kp bS .nil pass0 (pa_cons (pe_revL (pe_slice sl_list (pv 0) po_none (po_some (pv 1)))) pa_nil)) pa_nil))) pa_nil))
            (pe_callB (call_rp hG hr.units) (by rfl) gR boot_repr (pa_cons (pe_op op_rep (pe_lst (pa_cons (pe_call GL (hr.mono (by decide)) (by rfl) gLP Fl.kp bL .nil pass0 (pa_cons (pe_slice sl_list (pv 0) po_none (po_some (pv 1))) pa_nil)) pa_nil)) pe_int) pa_nil)) (nomark _))
          (pss_one (ps_ret pe_bl)) pss_nil)))
      (pss_cons (ps_setLc (i := 2) (own := [("_law_k", 3)]) (g := gName 3) rfl scRight.nd rfl rfl (sw_true rfl rfl rfl rfl) (pi_range2 rfl gRa (pa_cons pe_int (pa_cons (pe_callB call_len_seq (by rfl) gL boot_len (pa_cons (pv 0) pa_nil)) pa_nil)))
          (blkOk_by (N := ["_law_some", "_law_count", "_law_bad", "_law_k"]) (sc := defScope sRight) (by decide +kernel)) (fun _ _ _ _ _ => pg_name (i := 3) scRight.nd rfl (Or.inl rfl))
          (fun _ _ _ _ _ => pts_one (pt_not (pt_val (pe_callG hG GT hr (by rfl) gT Ft.kp bT (pa_cons (pe_ix (show IxR _ (rIxL K) from ix_list) (pv 0) pe_int (fun _ _ => rfl)) (pa_cons (pe_ix (show IxR _ (rIxL K) from ix_list) (pv 0) (pv 3) (fun _ _ => rfl)) pa_nil))))))
          (fun _ _ _ _ _ => pv 3))
      (pss_one (ps_ret (pe_and (pe_cmpR (op_eqG hr.units) (pv 2) (pe_lst pa_nil) (nomark _)) (pe_one (pe_callG hG GT hr (by rfl) gT Ft.kp bT (pa_cons (pe_ix ix_list (pv 0) pe_int (fun _ _ => rfl)) (pa_cons (pe_ix ix_list (pv 0) pe_int (fun _ _ => rfl)) pa_nil))))))))), ?_⟩
    have ll : ((x :: xs).map V.str).length = xs.length + 1 := by rw [List.length_map, List.length_cons]
    refine ⟨_, rfl, a, _, rfl, .inl (SqL.of ha), _, _, rfl, rfl, _, _, rfl, ⟨by omega, by omega, by omega, by omega⟩, for_range (lo := 1) (fun i σ G => ∃ v, σ = [some (.ref a), v, none, none] ∧ Same H G) ⟨none, rfl, Same.refl H⟩ ?_ ?_⟩
    · rintro i σ G hi ⟨v, rfl, sG⟩
      have hi : i < xs.length + 1 := by rw [ll] at hi; omega
      have e1 : cutV ((x :: xs).map V.str) none (some ((1 : Int) + (i : Int))) = (x :: xs.take i).map V.str := by
        have z := cutV_head (xs := (x :: xs).map V.str) (n := i + 1) (by rw [ll]; omega)
        rw [show ((i + 1 : Nat) : Int) = (1 : Int) + (i : Int) by omega] at z
        rw [z, ← List.map_take]; rfl
      have hsub : ∀ y ∈ x :: xs.take i, y ∈ x :: xs := fun y hy => by
        rcases List.mem_cons.mp hy with rfl | hy
        · exact List.mem_cons_self ..
        · exact List.mem_cons_of_mem _ (List.mem_of_mem_take hy)
      have hlen : ∀ y ∈ x :: xs.take i, y.length ≤ 1000 := fun y hy => (hall y (hsub y hy)).2
      have htl : (xs.take i).length ≤ 4 := by rw [List.length_take]; omega
      have ax := hall x (List.mem_cons_self ..)
      refine ⟨_, rfl, _, rfl, _, rfl, a, _, rfl, SqL.of (sG _ _ ha), fun p1 h1 => ⟨p1, x :: xs.take i, rfl, by simp, by simp only [List.length_cons]; omega, by rw [e1]; exact upd_same, hlen, fun q1 G1 hq1 s1 => ?_⟩⟩
      have sG1 : Same H G1 := fun b o hb => s1 b o (upS (sG b o hb) h1)
      refine ⟨_, rfl, _, rfl, _, rfl, a, _, rfl, SqL.of (sG1 _ _ ha), fun p2 h2 => ⟨p2, (x :: xs.take i).map V.str, rfl, SqL.of (by rw [e1]; exact upd_same), fun p3 h3 => ?_⟩⟩
      refine ⟨p3, (x :: xs.take i).reverse, rfl, by simp, by rw [List.length_reverse, List.length_cons]; omega, by rw [List.map_reverse]; exact upd_same, fun y hy => hlen y (List.mem_reverse.mp hy), fun q2 G2 hq2 s2 => ?_⟩
      obtain rfl : q2 = q1 := hq2.one (hq1.congr fun w => by rw [List.map_reverse, List.mem_reverse]) (by simp)
      have sG2 : Same H G2 := fun b o hb => s2 b o (upS (upS (sG1 b o hb) h2) h3)
      have gd : Good (.list ([mkS q2, mkS q2].map PyData.str)) := good_strs (n := 1000) (fun z hz => by
        have : z = mkS q2 := by simpa using hz
        rw [this]; exact pre_asc hq1 (List.mem_cons_self ..) ax.1) (fun z hz => by
        have : z = mkS q2 := by simpa using hz
        rw [this]; exact Nat.le_trans (pre_len hq1 (List.mem_cons_self ..)) ax.2) (by simp)
      refine ⟨by show 2 ≤ sizeLine; omega, fun p4 h4 => ⟨_, .list ([mkS q2, mkS q2].map PyData.str), rfl, .lst (SqL.of upd_same) (dp_strs [mkS q2, mkS q2]), gd, ?_⟩⟩
      have sG3 : Same H (upd G2 p4 (.lst [V.str (mkS q2), V.str (mkS q2)])) := fun b o hb => upS (sG2 b o hb) h4
      refine ⟨_, rfl, _, rfl, _, rfl, a, _, rfl, SqL.of (sG3 _ _ ha), fun p5 h5 => ⟨p5, x, xs.take i, rfl, by rw [e1]; exact upd_same, by omega, hlen, fun q3 G3 hq3 s3 => ?_⟩⟩
      obtain rfl : q3 = q2 := hq3.one hq1 (by simp)
      refine ⟨by show 1 ≤ sizeLine; omega, fun p6 h6 => ⟨p6, 2, _, rfl, rfl, upd_same, by decide, by decide, by show 2 ≤ sizeLine; omega, fun p7 h7 => ⟨_, .list ([mkS q3, mkS q3].map PyData.str), rfl, .lst (SqL.of (xs := [V.str (mkS q3), V.str (mkS q3)]) upd_same) (dp_strs [mkS q3, mkS q3]), gd, rfl, _, rfl, ?_⟩⟩⟩
      refine ite2 (fun h => by simp at h) (fun _ => ⟨_, rfl, fun b o hb => upS (upS (s3 b o (upS (sG3 b o hb) h5)) h6) h7⟩)
    · rintro σ G ⟨v, rfl, sG⟩
      refine ⟨_, rfl, a, _, rfl, .inl (SqL.of (sG _ _ ha)), _, _, rfl, ⟨by omega, by omega, by omega, by omega⟩, fun B hB => lc_range (lo := 1) (fun i G1 => Same (upd G B (.lst [])) G1) (Same.refl _) ?_ ?_⟩
      · rintro i G1 hi s1
        have hi : i < xs.length := by rw [ll] at hi; omega
        have ha1 : G1 a = some (.lst ((x :: xs).map V.str)) := s1 _ _ (upS (sG _ _ ha) hB)
        have ei : (1 : Int) + (i : Int) = ((i + 1 : Nat) : Int) := by omega
        have hit : ((x :: xs).map V.str)[i + 1]? = some (.str (xs[i]'hi)) := by
          rw [List.getElem?_map, List.getElem?_cons_succ, List.getElem?_eq_getElem hi]; rfl
        have h0 := hall x (List.mem_cons_self ..)
        have h2 := hall (xs[i]'hi) (List.mem_cons_of_mem _ (List.getElem_mem _))
        refine ⟨rfl, _, rfl, a, _, _, _, rfl, rfl, SqL.of ha1, atI_nat (j := 0) rfl, _, rfl, _, rfl, a, _, _, _, rfl, rfl, SqL.of ha1, by rw [ei]; exact atI_nat hit, x, _, rfl, h0.1, h2.1, h0.2, h2.2, fun G2 s2 => ?_⟩
        exact ⟨true, rfl, iteF (s1.trans s2)⟩
      · intro G1 s1
        refine ⟨_, rfl, by show 0 ≤ sizeLine; omega, fun p hp => ⟨.list [], .list [], .lst (SqL.of (upS (s1 _ _ upd_same) hp)) .nil, .lst (SqL.of upd_same) .nil, ⟨by decide, by decide, by decide⟩, ⟨by decide, by decide, by decide⟩, ?_⟩⟩
        rw [eqv_nil]
        have h0 := hall x (List.mem_cons_self ..)
        have ha1 : upd G1 p (.lst []) a = some (.lst ((x :: xs).map V.str)) := upS (s1 _ _ (upS (sG _ _ ha) hB)) hp
        refine ⟨_, rfl, iteT ⟨_, rfl, a, _, _, _, rfl, rfl, SqL.of ha1, atI_nat (j := 0) rfl, _, rfl, a, _, _, _, rfl, rfl, SqL.of ha1, atI_nat (j := 0) rfl, x, x, rfl, h0.1, h0.1, h0.2, h0.2, fun G2 s2 => k _ fun b o hb => s2 b o (upS (s1 b o (upS (sG b o hb) hB)) hp)⟩⟩
end
end K12
namespace K12
open PySem PySem.Spec PyProof.Rows L2 Sw
theorem DeckAt.same {H H' : Hp} {d l : Addr} {ns : List Int} {br dr : Int} (D : DeckAt H d l ns br dr) (s : Same H H') : DeckAt H' d l ns br dr := ⟨s _ _ D.at_, s _ _ D.cells, D.few, D.lo⟩
theorem asc_upper {z : Str} (h : asc z = true) : asc (Txt.upper z) = true ∧ (Txt.upper z).length = z.length := by
  rw [upper_ascii (fun c hc => asc_lt h c hc)]
  refine ⟨List.all_eq_true.mpr fun c hc => ?_, Array.size_map ..⟩
  have hc : c ∈ (z.cps.map up1).toList := hc
  rw [Array.toList_map] at hc
  obtain ⟨b, hb, rfl⟩ := List.mem_map.mp hc
  have := asc_lt h b hb
  refine decide_eq_true ?_
  unfold up1
  split <;> omega
section
variable {P : Program} {w : World} {K : PySem.W.Frag} {mg : Str → Option Value} {base : Heap}
def spLaw (K : PySem.W.Frag) : Sp := fun vs H Q _ => ∃ (a : Addr) (ns : List Int), vs = [.ref a] ∧ SqL K H a (ns.map V.int) ∧ ns.length ≤ 63 ∧ ∀ H', Q (.bl true) H'
theorem scLaw : FnScope ["_law_script", "_law_deck_here", "_law_go", "_law_some", "_law_odd", "_law_it", "_law_was", "_law_told"] ["_law_script"] (defScope sLaw) := ⟨rfl, rfl, rfl, by decide +kernel, rfl, by decide +kernel, by decide +kernel⟩
theorem ok_law {f fDk fD fPk fB fLt fRt ft fs fg fl fDl fp fW fLW : Addr} {fd fdDk fdD fdPk fdB fdLt fdRt fdt fds fdg fdl fdDl fdp fdW fdLW : FuncData} (F : FnP K "law" sLaw f fd)
    (FDk : FnP K "_law_deck" sDeck fDk fdDk) (FD : FnP K "_law_draw" sDraw fD fdD) (FPk : FnP K "_law_pick" sPick fPk fdPk) (FB : FnP K "_law_bit" sBit fB fdB) (FLt : FnP K "_law_lot" sLot fLt fdLt) (FRt : FnP K "_law_right" sRight fRt fdRt)
    (Ft : FnP K "_law_two_right" sTwo ft fdt) (Fs : FnP K "_law_said" sSaid fs fds) (Fg : FnP K "_law_gap" sGap fg fdg) (Fl : FnP K "_law_prefix" sLPrefix fl fdl) (FDl : FnP K "delay" sDelay fDl fdDl) (Fp : FnP K "common_prefix" sPrefix fp fdp)
    (FW : FnP K "is_word" sIsWord fW fdW) (FLW : FnP K "_law_is_word" sLIsWord fLW fdLW)
    (gDk : mg "_law_deck" = some (.ref fDk)) (gD : mg "_law_draw" = some (.ref fD)) (gPk : mg "_law_pick" = some (.ref fPk)) (gB : mg "_law_bit" = some (.ref fB)) (gLt : mg "_law_lot" = some (.ref fLt)) (gRt : mg "_law_right" = some (.ref fRt))
    (gT : mg "_law_two_right" = some (.ref ft)) (gSd : mg "_law_said" = some (.ref fs)) (gG : mg "_law_gap" = some (.ref fg)) (gLP : mg "_law_prefix" = some (.ref fl)) (gDl : mg "delay" = some (.ref fDl)) (gP : mg "common_prefix" = some (.ref fp))
    (gW : mg "is_word" = some (.ref fW)) (gLW : mg "_law_is_word" = some (.ref fLW))
    (gI : mg "int" = none) (gLi : mg "list" = none) (gTu : mg "tuple" = none) (gIs : mg "isinstance" = none) (gSt : mg "str" = none) (gA : mg "all" = none) (gM : mg "min" = none) (gX : mg "max" = none) (gL : mg "len" = none) (gS : mg "set" = none) (gR : mg "repr" = none) (gRa : mg "range" = none) :
    FnG P w K mg base 5 f fd ["_law_script"] (spLaw K) := by
  have GDk : FnOk P w K mg base CX0 1 fDk fdDk ["_law_script"] (spDeck K) := ok_deck FDk gI gLi
  have GLt : FnOk P w K mg base CX0 4 fLt fdLt ["_law_deck_here"] spLot := ok_lot FLt FD FPk FB gD gPk gB gI gL gRa
  have GR : FnG P w K mg base 4 fRt fdRt ["_law_some"] spRight := ok_right FRt Ft Fs Fg Fl FDl Fp gT gSd gG gLP gDl gP gM gX gL gS gR gRa
  have GW : FnOk P w K mg base CX0 1 fW fdW ["thing"] (spWord K) := ok_isWord FW gIs gSt gA
  have GLW : FnOk P w K mg base CX0 1 fLW fdLW ["_law_it"] (spLWord K) := ok_lWord FLW gIs gSt
  have GP : FnR P w K mg base CX0 1 fp spPre := ok_pre Fp gM gX gL
  have GDl : FnOk P w K mg base CX0 2 fDl fdDl ["one", "other"] spDelay := ok_delay FDl Fp gP gM gX gL
  have bDk : Binds K fdDk ["_law_script"] [] := FDk.bindsN fun _ _ _ _ _ _ us hl => match us, hl with | [_], _ => rfl
  have bLt : Binds K fdLt ["_law_deck_here"] [] := FLt.bindsN fun _ _ _ _ _ _ us hl => match us, hl with | [_], _ => rfl
  have bRt : Binds K fdRt ["_law_some"] [] := FRt.bindsN fun _ _ _ _ _ _ us hl => match us, hl with | [_], _ => rfl
  have bW : Binds K fdW ["thing"] [] := FW.bindsN fun _ _ _ _ _ _ us hl => match us, hl with | [_], _ => rfl
  have bLW : Binds K fdLW ["_law_it"] [] := FLW.bindsN fun _ _ _ _ _ _ us hl => match us, hl with | [_], _ => rfl
  have bDl : Binds K fdDl ["one", "other"] [] := FDl.bindsN fun _ _ _ _ _ _ us hl => match us, hl with | [_, _], _ => rfl
  have kW : KBn K fdW ["thing"] 0 ["thing"] (fun us ws => us ++ ws) (fun vs zs => vs ++ zs) := kb_all FW fun _ _ _ _ _ _ ws hl => match ws, hl with | [_], _ => rfl
  refine fng_of F scLaw (fun vs H Q E h => ?_) (fun cdv A outer s H vs Q E hG hr h => ?_)
  · obtain ⟨a, ns, rfl, _⟩ := h; rfl
  · obtain ⟨a0, ns, rfl, hS, hn, k⟩ := h
    have lz := line_big
    refine ⟨_, PSs.nox (pss_cons (ps_set (i := 1) scLaw.nd rfl (Or.inl rfl) (pe_call GDk (hr.mono (by decide)) (by rfl) gDk FDk.kp bDk .nil pass0 (pa_cons (pv 0) pa_nil)))
      (pss_cons (ps_for PassesOwn.never rfl (pi_range1 rfl gRa (pa_cons pe_int pa_nil)) (pg_name (i := 2) scLaw.nd rfl (Or.inl rfl))
        (pss_cons (ps_set (i := 3) scLaw.nd rfl (Or.inl rfl) (pe_call GLt (hr.mono (by decide)) (by rfl) gLt FLt.kp bLt .nil pass0 (pa_cons (pv 1) pa_nil)))
          (pss_cons (ps_set (i := 4) scLaw.nd rfl (Or.inl rfl) (pe_lst (pa_cons (pe_upper (pe_ix ix_list (pv 3) pe_int (fun _ _ => rfl))) (pa_cons (pe_op op_add_str (pe_ix ix_list (pv 3) pe_int (fun _ _ => rfl)) pe_str) (pa_cons (pe_callTy (call_listS rfl) (by rfl) gLi boot_list (pa_cons (pe_ix ix_list (pv 3) pe_int (fun _ _ => rfl)) pa_nil)) (pa_cons (pe_op op_add_str (pe_ix ix_list (pv 3) pe_int (fun _ _ => rfl)) pe_str) (pa_cons (pe_callTy call_tuple_of (by rfl) gTu boot_tuple (pa_cons (pv 3) pa_nil)) (pa_cons (pe_op op_add_str (pe_ix ix_list (pv 3) pe_int (fun _ _ => rfl)) pe_str) (pa_cons (pe_op op_add_str (pe_ix ix_list (pv 3) pe_int (fun _ _ => rfl)) pe_str) pa_nil)))))))))
          (pss_cons (ps_if (pt_not (pt_val (pe_callG hG GR hr (by rfl) gRt FRt.kp bRt (pa_cons (pv 3) pa_nil)))) (pss_one (ps_ret pe_bl)) pss_nil)
          (pss_one (ps_for PassesOwn.never rfl (pi_list (pe_op op_cat (pe_op op_cat (pv 3) (pv 4)) (pe_lst (pa_cons pe_non (pa_cons pe_int (pa_cons pe_bl (pa_cons (pe_lst pa_nil) (pa_cons pe_dnewK (pa_cons (pe_tup (pa_cons pe_str pa_nil)) (pa_cons pe_str (pa_cons pe_str (pa_cons pe_str (pa_cons pe_str (pa_cons (pe_op op_pow pe_int pe_int) (pa_cons (pe_op op_mulT pe_str pe_int) (pa_cons (pe_op op_mulT pe_str pe_int) pa_nil)))))))))))))))) (pg_name (i := 5) scLaw.nd rfl (Or.inl rfl))
            (pss_cons (ps_set (i := 6) scLaw.nd rfl (Or.inl rfl) (pe_callB (call_rv hG hr.units) (by rfl) gR boot_repr (pa_cons (pv 5) pa_nil)))
            (pss_one (ps_if (PW.pt (pw_or (pt_cmpR op_ne (pe_callB (call_rp hG hr.units) (by rfl) gR boot_repr (pa_cons (pe_lst (pa_cons (pe_call GW (hr.mono (by decide)) (by rfl) gW FW.kp bW .nil pass0 (pa_cons (pv 5) pa_nil)) (pa_cons (pe_callKw GW (hr.mono (by decide)) (by rfl) gW FW.kp kW pass0 (pk_cons (pv 5) pk_nil)) pa_nil))) pa_nil)) (pe_callB (call_rp hG hr.units) (by rfl) gR boot_repr (pa_cons (pe_op op_rep (pe_lst (pa_cons (pe_call GLW (hr.mono (by decide)) (by rfl) gLW FLW.kp bLW .nil pass0 (pa_cons (pv 5) pa_nil)) pa_nil)) pe_int) pa_nil)) (nomark _)) (pw_or1 (pt_cmpR op_ne (pe_callB (call_rv hG hr.units) (by rfl) gR boot_repr (pa_cons (pv 5) pa_nil)) (pv 6) (nomark _))))) (pss_one (ps_ret pe_bl)) pss_nil)))))))))
      (pss_cons (ps_set (i := 7) scLaw.nd rfl (Or.inl rfl) (pe_lst (pa_cons (pe_callR GP (hr.mono (by decide)) (by rfl) gP Fp.kp pass0 (pa_cons pe_str (pa_cons pe_str (pa_cons pe_str (pa_cons pe_str (pa_cons pe_str (pa_cons pe_str (pa_cons pe_str pa_nil)))))))) (pa_cons (pe_callR GP (hr.mono (by decide)) (by rfl) gP Fp.kp pass0 (pa_cons pe_str pa_nil)) pa_nil))))
      (pss_cons (ps_set (i := 7) scLaw.nd rfl (Or.inl rfl) (pe_op op_cat (pv 7) (pe_lst (pa_cons (pe_call GDl (hr.mono (by decide)) (by rfl) gDl FDl.kp bDl .nil pass0 (pa_cons pe_str (pa_cons pe_str pa_nil))) (pa_cons (pe_call GDl (hr.mono (by decide)) (by rfl) gDl FDl.kp bDl .nil pass0 (pa_cons pe_str (pa_cons pe_str pa_nil))) (pa_cons (pe_call GDl (hr.mono (by decide)) (by rfl) gDl FDl.kp bDl .nil pass0 (pa_cons pe_str (pa_cons pe_str pa_nil))) pa_nil))))))
      (pss_one (ps_ret (pe_cmpR (op_eqG hr.units) (pv 7) (pe_lst (pa_cons pe_str (pa_cons pe_str (pa_cons (pe_tup (pa_cons pe_str (pa_cons pe_str pa_nil))) (pa_cons (pe_tup (pa_cons pe_str (pa_cons pe_str pa_nil))) (pa_cons (pe_tup (pa_cons pe_str (pa_cons pe_str pa_nil))) pa_nil)))))) (nomark _)))))))), ?_⟩
    refine ⟨_, rfl, a0, ns, rfl, hS, hn, fun d l ms br H1 D1 s1 => ?_⟩
    refine ⟨16, rfl, by omega, by omega, for_range (lo := 0) (n := 16) (fun i σ G => ∃ (v2 v3 v4 v5 v6 : Option V) (ms : List Int) (dd : Int), σ = [some (.ref a0), some (.ref d), v2, v3, v4, v5, v6, none] ∧ DeckAt G d l ms br dd ∧ dd ≤ 1000 * i) ⟨none, none, none, none, none, ms, 0, rfl, D1, by omega⟩ ?_ ?_⟩
    · rintro i σ G hi ⟨v2, v3, v4, v5, v6, ms, dd, rfl, D, hdd⟩
      refine ⟨_, rfl, d, l, ms, br, dd, rfl, D, by omega, fun a zs ms2 d2 H2 ha had hal hz2 hz5 hall D2 hd2 kp => ?_⟩
      match zs, ha, hz2, hz5, hall with
      | [], _, hz2, _, _ => exact absurd hz2 (by simp)
      | x :: xs, ha, hz2, hz5, hall =>
      have hx := hall x (List.mem_cons_self ..)
      have hup := asc_upper hx.1
      have hxs : xs.length ≤ 4 := by simp only [List.length_cons] at hz5; omega
      have l1 : ((" " : Str)).length = 1 := by decide
      have l2 : (("-" : Str)).length = 1 := by decide
      have l3 : (("\n" : Str)).length = 1 := by decide
      have l4 : (("A" : Str)).length = 1 := by decide
      have hxz : x.cps.size ≤ 80 := hx.2
      refine ⟨_, rfl, a, _, _, _, rfl, rfl, SqL.of ha, atI_nat (j := 0) rfl, ⟨_, rfl⟩, x, rfl, rfl, by omega, _, rfl, a, _, _, _, rfl, rfl, SqL.of ha, atI_nat (j := 0) rfl, _, _, rfl, rfl, by omega, _, rfl, a, _, _, _, rfl, rfl, SqL.of ha, atI_nat (j := 0) rfl, x, rfl, by omega, fun p3 h3 => ?_⟩
      have ha3 : upd H2 p3 (.lst (x.cps.toList.map fun c => V.str ⟨#[c]⟩)) a = some (.lst ((x :: xs).map V.str)) := upS ha h3
      refine ⟨_, rfl, a, _, _, _, rfl, rfl, SqL.of ha3, atI_nat (j := 0) rfl, _, _, rfl, rfl, by omega, _, rfl, a, _, rfl, .inl ⟨SqL.of ha3, fun p5 h5 => ?_⟩⟩
      have ha5 : upd (upd H2 p3 (.lst (x.cps.toList.map fun c => V.str ⟨#[c]⟩))) p5 (.tup ((x :: xs).map V.str)) a = some (.lst ((x :: xs).map V.str)) := upS ha3 h5
      refine ⟨_, rfl, a, _, _, _, rfl, rfl, SqL.of ha5, atI_nat (j := 0) rfl, _, _, rfl, rfl, by omega, _, rfl, a, _, _, _, rfl, rfl, SqL.of ha5, atI_nat (j := 0) rfl, _, _, rfl, rfl, by omega, by show 7 ≤ sizeLine; omega, fun p6 h6 => ?_⟩
      have sG6 : ∀ o, Same H2 (upd (upd (upd H2 p3 (.lst (x.cps.toList.map fun c => V.str ⟨#[c]⟩))) p5 (.tup ((x :: xs).map V.str))) p6 o) := fun o b o' hb => upS (upS (upS hb h3) h5) h6
      have h36 : ∀ o, upd (upd (upd H2 p3 (.lst (x.cps.toList.map fun c => V.str ⟨#[c]⟩))) p5 (.tup ((x :: xs).map V.str))) p6 o p3 = some (.lst (x.cps.toList.map fun c => V.str ⟨#[c]⟩)) := fun o => upS (upS upd_same h5) h6
      have h56 : ∀ o, upd (upd (upd H2 p3 (.lst (x.cps.toList.map fun c => V.str ⟨#[c]⟩))) p5 (.tup ((x :: xs).map V.str))) p6 o p5 = some (.tup ((x :: xs).map V.str)) := fun o => upS upd_same h6
      have h66 : ∀ o, upd (upd (upd H2 p3 (.lst (x.cps.toList.map fun c => V.str ⟨#[c]⟩))) p5 (.tup ((x :: xs).map V.str))) p6 o p6 = some o := fun o => upd_same
      generalize upd (upd H2 p3 (.lst (x.cps.toList.map fun c => V.str ⟨#[c]⟩))) p5 (.tup ((x :: xs).map V.str)) = G5 at sG6 h36 h56 h66 ⊢
      refine ⟨_, rfl, a, x, xs, rfl, sG6 _ _ _ ha, hxs, fun y hy => ⟨(hall y hy).1, by have := (hall y hy).2; omega⟩, fun H7 s7 => ⟨true, rfl, iteF ?_⟩⟩
      have ha7 := s7 _ _ (sG6 _ _ _ ha)
      have h37 := s7 _ _ (h36 _)
      have h57 := s7 _ _ (h56 _)
      have h67 := s7 _ _ (h66 _)
      have D7 := (D2.same (sG6 _)).same s7
      refine ⟨_, rfl, _, rfl, a, p6, _, _, rfl, rfl, ha7, h67, by simp only [List.length_map, List.length_cons, List.length_nil]; omega, fun q1 hq1 => ?_⟩
      refine ⟨by show 0 ≤ sizeLine; omega, fun r1 hr1 => fun r2 hr2 => ⟨by show 1 ≤ sizeLine; omega, fun r3 hr3 => ?_⟩⟩
      refine ⟨_, _, rfl, rfl, ⟨by decide, by decide, by decide⟩, _, _, rfl, rfl, by decide, by decide, by decide, by decide, fun u1 hu1 hc1 => ⟨_, _, rfl, rfl, by decide, by decide, by decide, by decide, fun u2 hu2 hc2 => ⟨by show 13 ≤ sizeLine; omega, fun r4 hr4 => ?_⟩⟩⟩
      have a1 : asc u1 = true := List.all_eq_true.mpr fun c hc => decide_eq_true (by
        have z := hc1 c hc
        rw [show (("z" : Str)).cps.toList = [122] by decide] at z
        have := List.mem_singleton.mp z
        omega)
      have a2 : asc u2 = true := List.all_eq_true.mpr fun c hc => decide_eq_true (by
        have z := hc2 c hc
        rw [show (("~" : Str)).cps.toList = [126] by decide] at z
        have := List.mem_singleton.mp z
        omega)
      have n1 : u1.length = 900 := hu1.trans (by decide)
      have n2 : u2.length = 900 := hu2.trans (by decide)
      have items : ∀ G : Hp, Same H7 G → G r1 = some (.lst []) → G r2 = some (.dK []) → G r3 = some (.tup [.str "a"]) →
          ∀ y ∈ ((x :: xs).map V.str ++ [V.str (Txt.upper x), V.str (x ++ " "), V.ref p3, V.str (x ++ "-"), V.ref p5, V.str (x ++ "
"), V.str (x ++ "A")]) ++
            [V.non, V.int 0, V.bl true, V.ref r1, V.ref r2, V.ref r3, V.str "0", V.str "_", V.str " a", V.str "aZ", V.int (10 ^ (39 : Int).toNat), V.str u1, V.str u2], Itm K G y := by
        intro G sG g1 g2 g3 y hy
        rcases List.mem_append.mp hy with hy | hy
        · rcases List.mem_append.mp hy with hy | hy
          · obtain ⟨z, hz, rfl⟩ := List.mem_map.mp hy
            have := hall z hz
            exact itm_str this.1 (by omega)
          · simp only [List.mem_cons, List.not_mem_nil, or_false] at hy
            rcases hy with rfl | rfl | rfl | rfl | rfl | rfl | rfl
            · exact itm_str hup.1 (by omega)
            · exact itm_str (asc_cat hx.1 (by decide)) (by rw [cat_len]; omega)
            · refine itm_strs (xs := x.cps.toList.map fun c => (⟨#[c]⟩ : Str)) (n := 1) ?_ (fun z hz => ?_) (fun z hz => ?_) ?_
              · rw [List.map_map]; exact sG _ _ h37
              · obtain ⟨c, hc, rfl⟩ := List.mem_map.mp hz
                have := asc_lt hx.1 c hc
                simp [asc, this]
              · obtain ⟨c, hc, rfl⟩ := List.mem_map.mp hz
                exact Nat.le_refl 1
              · rw [List.length_map, codes_len]; omega
            · exact itm_str (asc_cat hx.1 (by decide)) (by rw [cat_len]; omega)
            · exact itm_strsT (xs := x :: xs) (n := 80) (sG _ _ h57) (fun z hz => (hall z hz).1) (fun z hz => (hall z hz).2) (by simp only [List.length_cons]; omega)
            · exact itm_str (asc_cat hx.1 (by decide)) (by rw [cat_len]; omega)
            · exact itm_str (asc_cat hx.1 (by decide)) (by rw [cat_len]; omega)
        · simp only [List.mem_cons, List.not_mem_nil, or_false] at hy
          rcases hy with rfl | rfl | rfl | rfl | rfl | rfl | rfl | rfl | rfl | rfl | rfl | rfl | rfl
          · exact itm_non
          · exact itm_int (k := 1) (by decide) (by decide) (by decide) (by decide)
          · exact itm_bl true
          · exact itm_strs (xs := []) (n := 1) g1 (fun z hz => by cases hz) (fun z hz => by cases hz) (by simp)
          · exact itm_dk g2
          · exact itm_strsT (xs := ["a"]) (n := 1) g3 (fun z hz => by rw [List.mem_singleton.mp hz]; decide) (fun z hz => by rw [List.mem_singleton.mp hz]; decide) (by simp)
          · exact itm_str (by decide) (by decide)
          · exact itm_str (by decide) (by decide)
          · exact itm_str (by decide) (by decide)
          · exact itm_str (by decide) (by decide)
          · exact itm_int (k := 40) (by decide) (by decide) (by decide +kernel) (by decide +kernel)
          · exact itm_str a1 (by omega)
          · exact itm_str a2 (by omega)
      refine ⟨q1, r4, _, _, rfl, rfl, upS (upS (upS (upS upd_same hr1) hr2) hr3) hr4, upd_same, by simp only [List.length_append, List.length_map, List.length_cons, List.length_nil]; omega, fun L hL => ⟨L, rfl, ⟨_, SqL.of upd_same⟩, ?_⟩⟩
      refine for_list (K := K) (a := L) (xs := ((x :: xs).map V.str ++ [V.str (Txt.upper x), V.str (x ++ " "), V.ref p3, V.str (x ++ "-"), V.ref p5, V.str (x ++ "
"), V.str (x ++ "A")]) ++
            [V.non, V.int 0, V.bl true, V.ref r1, V.ref r2, V.ref r3, V.str "0", V.str "_", V.str " a", V.str "aZ", V.int (10 ^ (39 : Int).toNat), V.str u1, V.str u2])
        (fun j σ G => ∃ v5 v6 : Option V, σ = [some (.ref a0), some (.ref d), some (.int (0 + (i : Int))), some (.ref a), some (.ref p6), v5, v6, none] ∧ Same H7 G ∧ G r1 = some (.lst []) ∧ G r2 = some (.dK []) ∧ G r3 = some (.tup [.str "a"]) ∧
          G L = some (.lst (((x :: xs).map V.str ++ [V.str (Txt.upper x), V.str (x ++ " "), V.ref p3, V.str (x ++ "-"), V.ref p5, V.str (x ++ "
"), V.str (x ++ "A")]) ++
            [V.non, V.int 0, V.bl true, V.ref r1, V.ref r2, V.ref r3, V.str "0", V.str "_", V.str " a", V.str "aZ", V.int (10 ^ (39 : Int).toNat), V.str u1, V.str u2])))
        ⟨v5, v6, rfl, (fun b o hb => upS (upS (upS (upS (upS (upS hb hq1) hr1) hr2) hr3) hr4) hL), upS (upS (upS (upS upd_same hr2) hr3) hr4) hL, upS (upS (upS upd_same hr3) hr4) hL, upS (upS upd_same hr4) hL, upd_same⟩
        (fun j σ G _ ⟨_, _, _, _, _, _, _, e⟩ => SqL.of e) ?_ ?_
      · rintro j y σ G hj ⟨w5, w6, rfl, sG, g1, g2, g3, gL0⟩
        have it := items G sG g1 g2 g3 y (List.mem_of_getElem? hj)
        obtain ⟨t, rt⟩ := it.rv
        have gd : Good (.list [.bool (wordV y), .bool (wordV y)]) := by
          cases wordV y <;> exact ⟨by decide, by decide, by decide⟩
        refine ⟨_, rfl, y, t, rfl, rt, ?_⟩
        refine ⟨_, rfl, y, rfl, it.kd, fun G1 s1 => ⟨_, rfl, rfl, y, rfl, (it.same s1).kd, fun G2 s2 => ⟨by show 2 ≤ sizeLine; omega, fun b1 hb1 => ?_⟩⟩⟩
        have sA : Same G (upd G2 b1 (.lst [V.bl (wordV y), V.bl (wordV y)])) := fun b o hb => upS (s2 _ _ (s1 _ _ hb)) hb1
        refine ⟨_, .list [.bool (wordV y), .bool (wordV y)], rfl, .lst (SqL.of upd_same) (.cons (.bl _) (.cons (.bl _) .nil)), gd, ?_⟩
        refine ⟨_, rfl, y, rfl, (it.same sA).kd, it.sm, fun G3 s3 => ⟨by show 1 ≤ sizeLine; omega, fun b2 hb2 => ⟨b2, 2, _, rfl, rfl, upd_same, by decide, by decide, by show 2 ≤ sizeLine; omega, fun b3 hb3 => ?_⟩⟩⟩
        refine ⟨_, .list [.bool (wordV y), .bool (wordV y)], rfl, .lst (SqL.of (xs := [V.bl (wordV y), V.bl (wordV y)]) upd_same) (.cons (.bl _) (.cons (.bl _) .nil)), gd, rfl, _, rfl, ?_⟩
        have sB : Same G (upd (upd G3 b2 (.lst [V.bl (wordV y)])) b3 (.lst (List.replicate (2 : Int).toNat [V.bl (wordV y)]).flatten)) := fun b o hb => upS (upS (s3 _ _ (sA _ _ hb)) hb2) hb3
        refine ite2 (fun h => by simp at h) (fun _ => ⟨_, rfl, y, t, rfl, rt.same sB, _, rfl, rfl, _, rfl, ite2 (fun h => by simp at h) (fun _ => ⟨_, _, rfl, sG.trans sB, sB _ _ g1, sB _ _ g2, sB _ _ g3, sB _ _ gL0⟩)⟩)
      · rintro σ G ⟨w5, w6, rfl, sG, _, _, _, _⟩
        exact ⟨_, _, _, _, _, ms2, d2, rfl, D7.same sG, by omega⟩
    · rintro σ G ⟨v2, v3, v4, v5, v6, ms, dd, rfl, D, hdd⟩
      refine ⟨"abcd", ["abc", "abce", "abcf", "abcg", "abch", "ab"], rfl, by decide, by decide, fun q p hq hp => ?_⟩
      obtain rfl : q = [97, 98] := (hq.one (isPre_min "abcd" ["abc", "abce", "abcf", "abcg", "abch", "ab"]) (by simp)).trans (by decide)
      refine ⟨"", [], rfl, by decide, by decide, fun q' p' hq' hp' => ?_⟩
      obtain rfl : q' = [] := (hq'.one (isPre_min "" []) (by simp)).trans (by decide)
      refine ⟨by show 2 ≤ sizeLine; omega, fun b1 hb1 => ?_⟩
      refine ⟨_, rfl, "xy", "xyz", rfl, by decide, by decide, fun G1 t1 s1 ht1 => ⟨"x", "yx", rfl, by decide, by decide, fun G2 t2 s2 ht2 => ⟨"", "", rfl, by decide, by decide, fun G3 t3 s3 ht3 => ⟨by show 3 ≤ sizeLine; omega, fun b2 hb2 => ?_⟩⟩⟩⟩
      have e1 := upS (o' := .lst [V.ref t1, V.ref t2, V.ref t3]) (upS (o' := .tup [.str (drS "" (lc "" "")), .str (drS "" (lc "" ""))]) (s3 _ _ (upS (o' := .tup [.str (drS "x" (lc "x" "yx")), .str (drS "yx" (lc "x" "yx"))]) (s2 _ _ (upS (o' := .tup [.str (drS "xy" (lc "xy" "xyz")), .str (drS "xyz" (lc "xy" "xyz"))]) (s1 _ _ upd_same) ht1)) ht2)) ht3) hb2
      have e2 := upS (o' := .lst [V.ref t1, V.ref t2, V.ref t3]) (upS (o' := .tup [.str (drS "" (lc "" "")), .str (drS "" (lc "" ""))]) (s3 _ _ (upS (o' := .tup [.str (drS "x" (lc "x" "yx")), .str (drS "yx" (lc "x" "yx"))]) (s2 _ _ upd_same) ht2)) ht3) hb2
      have e3 := upS (o' := .lst [V.ref t1, V.ref t2, V.ref t3]) (upS (o' := .tup [.str (drS "" (lc "" "")), .str (drS "" (lc "" ""))]) (s3 _ _ upd_same) ht3) hb2
      have e4 := upS (o' := .lst [V.ref t1, V.ref t2, V.ref t3]) (upd_same (H := G3) (a := t3) (o := .tup [.str (drS "" (lc "" "")), .str (drS "" (lc "" ""))])) hb2
      refine ⟨b1, b2, _, _, rfl, rfl, e1, upd_same, by show 2 + 3 ≤ sizeLine; omega, fun b3 hb3 => ?_⟩
      refine ⟨_, rfl, by show 2 ≤ sizeLine; omega, fun c1 hc1 => ⟨by show 2 ≤ sizeLine; omega, fun c2 hc2 => ⟨by show 2 ≤ sizeLine; omega, fun c3 hc3 => ⟨by show 5 ≤ sizeLine; omega, fun c4 hc4 => ?_⟩⟩⟩⟩
      refine ⟨.list [.str (mkS [97, 98]), .str (mkS []), .tuple [.str (drS "xy" (lc "xy" "xyz")), .str (drS "xyz" (lc "xy" "xyz"))], .tuple [.str (drS "x" (lc "x" "yx")), .str (drS "yx" (lc "x" "yx"))], .tuple [.str (drS "" (lc "" "")), .str (drS "" (lc "" ""))]],
        .list [.str "ab", .str "", .tuple [.str "", .str "z"], .tuple [.str "x", .str "yx"], .tuple [.str "", .str ""]],
        .lst (SqL.of (xs := [V.str (mkS [97, 98]), V.str (mkS []), V.ref t1, V.ref t2, V.ref t3]) (upS (upS (upS (upS upd_same hc1) hc2) hc3) hc4)) (.cons (.str _) (.cons (.str _) (.cons (.tup (SqT.of (upS (upS (upS (upS (upS e2 hb3) hc1) hc2) hc3) hc4)) (.cons (.str _) (.cons (.str _) .nil)))
          (.cons (.tup (SqT.of (upS (upS (upS (upS (upS e3 hb3) hc1) hc2) hc3) hc4)) (.cons (.str _) (.cons (.str _) .nil))) (.cons (.tup (SqT.of (upS (upS (upS (upS (upS e4 hb3) hc1) hc2) hc3) hc4)) (.cons (.str _) (.cons (.str _) .nil))) .nil))))),
        .lst (SqL.of upd_same) (.cons (.str _) (.cons (.str _) (.cons (.tup (SqT.of (upS (upS (upS upd_same hc2) hc3) hc4)) (.cons (.str _) (.cons (.str _) .nil)))
          (.cons (.tup (SqT.of (upS (upS upd_same hc3) hc4)) (.cons (.str _) (.cons (.str _) .nil))) (.cons (.tup (SqT.of (upS upd_same hc4)) (.cons (.str _) (.cons (.str _) .nil))) .nil))))),
        ⟨by decide +kernel, by decide +kernel, by decide +kernel⟩, ⟨by decide +kernel, by decide +kernel, by decide +kernel⟩, ?_⟩
      rw [show PyData.eqv (.list [.str (mkS [97, 98]), .str (mkS []), .tuple [.str (drS "xy" (lc "xy" "xyz")), .str (drS "xyz" (lc "xy" "xyz"))], .tuple [.str (drS "x" (lc "x" "yx")), .str (drS "yx" (lc "x" "yx"))], .tuple [.str (drS "" (lc "" "")), .str (drS "" (lc "" ""))]])
        (.list [.str "ab", .str "", .tuple [.str "", .str "z"], .tuple [.str "x", .str "yx"], .tuple [.str "", .str ""]]) = true by decide +kernel]
      exact k _
end
end K12
namespace K12
open PySem PySem.Spec PyProof.Rows L2 Sw
def dd0 : He.DefD := ⟨("is_word", none), "is_word", "is_word", defArgs sIsWord, defBody sIsWord, defScope sIsWord, [], []⟩
def dd1 : He.DefD := ⟨("common_prefix", none), "common_prefix", "common_prefix", defArgs sPrefix, defBody sPrefix, defScope sPrefix, [], []⟩
def dd2 : He.DefD := ⟨("delay", none), "delay", "delay", defArgs sDelay, defBody sDelay, defScope sDelay, [], []⟩
def dd3 : He.DefD := ⟨("_law_deck", none), "_law_deck", "_law_deck", defArgs sDeck, defBody sDeck, defScope sDeck, [], []⟩
def dd4 : He.DefD := ⟨("_law_draw", none), "_law_draw", "_law_draw", defArgs sDraw, defBody sDraw, defScope sDraw, [], []⟩
def dd5 : He.DefD := ⟨("_law_pick", none), "_law_pick", "_law_pick", defArgs sPick, defBody sPick, defScope sPick, [], []⟩
def dd6 : He.DefD := ⟨("_law_bit", none), "_law_bit", "_law_bit", defArgs sBit, defBody sBit, defScope sBit, [], []⟩
def dd7 : He.DefD := ⟨("_law_gap", none), "_law_gap", "_law_gap", defArgs sGap, defBody sGap, defScope sGap, [], []⟩
def dd8 : He.DefD := ⟨("_law_is_word", none), "_law_is_word", "_law_is_word", defArgs sLIsWord, defBody sLIsWord, defScope sLIsWord, [], []⟩
def dd9 : He.DefD := ⟨("_law_prefix", none), "_law_prefix", "_law_prefix", defArgs sLPrefix, defBody sLPrefix, defScope sLPrefix, [], []⟩
def dd10 : He.DefD := ⟨("_law_lot", none), "_law_lot", "_law_lot", defArgs sLot, defBody sLot, defScope sLot, [], []⟩
def dd11 : He.DefD := ⟨("_law_said", none), "_law_said", "_law_said", defArgs sSaid, defBody sSaid, defScope sSaid, [], []⟩
def dd12 : He.DefD := ⟨("_law_two_right", none), "_law_two_right", "_law_two_right", defArgs sTwo, defBody sTwo, defScope sTwo, [], []⟩
def dd13 : He.DefD := ⟨("_law_right", none), "_law_right", "_law_right", defArgs sRight, defBody sRight, defScope sRight, [], []⟩
def dd14 : He.DefD := ⟨("law", none), "law", "law", defArgs sLaw, defBody sLaw, defScope sLaw, [], []⟩
def fn : List He.DefD := [dd0, dd1, dd2, dd3, dd4, dd5, dd6, dd7, dd8, dd9, dd10, dd11, dd12, dd13, dd14]
def fa : List He.Fa := [.glo "is_word", .glo "common_prefix", .glo "delay", .glo "_law_deck", .glo "_law_draw", .glo "_law_pick", .glo "_law_bit", .glo "_law_gap", .glo "_law_is_word", .glo "_law_prefix", .glo "_law_lot", .glo "_law_said", .glo "_law_two_right", .glo "_law_right", .glo "law", .free "int", .free "list", .free "tuple", .free "isinstance", .free "str", .free "all", .free "min", .free "max", .free "len", .free "set", .free "repr", .free "range"]
abbrev R : PySem.W.OpenRow := PySem.W.OpenLaw.row PySem.Challenge.rw_streamwrights_k12_words_prefixes_delays
abbrev hk : PySem.W.Hook := He.hookD 4 fa fn
def ob (s : PySem.W.SharedT) : He.AlD := He.obsDG 4 fa fn (HandSHeadRun.getT s)
theorem ob_eq (s : PySem.W.SharedT) : ob s = hk.obs s.abs := He.obsDG_eq (HandSHeadRun.getT_eq s)
def others : List Str := ["is_word", "common_prefix", "delay", "_law_deck", "_law_draw", "_law_pick", "_law_bit", "_law_gap", "_law_is_word", "_law_prefix", "_law_lot", "_law_said", "_law_two_right", "_law_right"]
theorem run (w : World) : HandSHeadRun.RunEq R (PySem.W.view R.prog [16]) hk ob 2000 others w := by
  intro os
  kernel_rfl
theorem facts {P : Program} {w : World} {K : PySem.W.Frag} {h : Heap} {mg : Str → Option Value} {f : Addr} (X : K.In h) (G : h.Ns mainGlobals mg) (hfa : mg ("law" : Str) = some (.ref f)) (c : He.SaysD fa fn K) :
    ∃ fd : FuncData, (∀ (s : Shared) (v : Value), BindsTo s fd ⟨[v], []⟩ [("_law_script", v)]) ∧ ∀ base : Heap, K.In base → base.Ns mainGlobals mg → FnG P w K mg base 5 f fd ["_law_script"] (spLaw K) := by
  obtain ⟨fd0, F0⟩ := c.def_ 0 (d := dd0) rfl
  obtain ⟨fd1, F1⟩ := c.def_ 1 (d := dd1) rfl
  obtain ⟨fd2, F2⟩ := c.def_ 2 (d := dd2) rfl
  obtain ⟨fd3, F3⟩ := c.def_ 3 (d := dd3) rfl
  obtain ⟨fd4, F4⟩ := c.def_ 4 (d := dd4) rfl
  obtain ⟨fd5, F5⟩ := c.def_ 5 (d := dd5) rfl
  obtain ⟨fd6, F6⟩ := c.def_ 6 (d := dd6) rfl
  obtain ⟨fd7, F7⟩ := c.def_ 7 (d := dd7) rfl
  obtain ⟨fd8, F8⟩ := c.def_ 8 (d := dd8) rfl
  obtain ⟨fd9, F9⟩ := c.def_ 9 (d := dd9) rfl
  obtain ⟨fd10, F10⟩ := c.def_ 10 (d := dd10) rfl
  obtain ⟨fd11, F11⟩ := c.def_ 11 (d := dd11) rfl
  obtain ⟨fd12, F12⟩ := c.def_ 12 (d := dd12) rfl
  obtain ⟨fd13, F13⟩ := c.def_ 13 (d := dd13) rfl
  obtain ⟨fd14, F14⟩ := c.def_ 14 (d := dd14) rfl
  have e := hfa.symm.trans (He.glo_ok X G (c.fact 14 (f := .glo "law") rfl))
  cases e
  have b := FunD.bindsA (ps := ["_law_script"]) F14 fun _ _ _ _ _ _ us hl => match us, hl with | [_], _ => rfl
  exact ⟨fd14, fun s v => b s [v] rfl, fun base _ _ => ok_law F14 F3 F4 F5 F6 F10 F13 F12 F11 F7 F9 F2 F1 F0 F8
      (He.glo_ok X G (c.fact 3 (f := .glo "_law_deck") rfl)) (He.glo_ok X G (c.fact 4 (f := .glo "_law_draw") rfl)) (He.glo_ok X G (c.fact 5 (f := .glo "_law_pick") rfl)) (He.glo_ok X G (c.fact 6 (f := .glo "_law_bit") rfl)) (He.glo_ok X G (c.fact 10 (f := .glo "_law_lot") rfl)) (He.glo_ok X G (c.fact 13 (f := .glo "_law_right") rfl)) (He.glo_ok X G (c.fact 12 (f := .glo "_law_two_right") rfl)) (He.glo_ok X G (c.fact 11 (f := .glo "_law_said") rfl)) (He.glo_ok X G (c.fact 7 (f := .glo "_law_gap") rfl)) (He.glo_ok X G (c.fact 9 (f := .glo "_law_prefix") rfl)) (He.glo_ok X G (c.fact 2 (f := .glo "delay") rfl)) (He.glo_ok X G (c.fact 1 (f := .glo "common_prefix") rfl)) (He.glo_ok X G (c.fact 0 (f := .glo "is_word") rfl)) (He.glo_ok X G (c.fact 8 (f := .glo "_law_is_word") rfl))
      (He.free_ok X G (c.fact 15 (f := .free "int") rfl)) (He.free_ok X G (c.fact 16 (f := .free "list") rfl)) (He.free_ok X G (c.fact 17 (f := .free "tuple") rfl)) (He.free_ok X G (c.fact 18 (f := .free "isinstance") rfl)) (He.free_ok X G (c.fact 19 (f := .free "str") rfl)) (He.free_ok X G (c.fact 20 (f := .free "all") rfl)) (He.free_ok X G (c.fact 21 (f := .free "min") rfl)) (He.free_ok X G (c.fact 22 (f := .free "max") rfl)) (He.free_ok X G (c.fact 23 (f := .free "len") rfl)) (He.free_ok X G (c.fact 24 (f := .free "set") rfl)) (He.free_ok X G (c.fact 25 (f := .free "repr") rfl)) (He.free_ok X G (c.fact 26 (f := .free "range") rfl))⟩
end K12
open PySem PySem.W PySem.Calls PyProof.Rows
theorem PySem.Challenge.cw_streamwrights_k12_words_prefixes_delays_holds : PySem.Challenge.rw_streamwrights_k12_words_prefixes_delays.Holds := by
  w_on; o_law
  refine HandSHeadRun.head_any (r := OpenLaw.row PySem.Challenge.rw_streamwrights_k12_words_prefixes_delays) (q := view (OpenLaw.row PySem.Challenge.rw_streamwrights_k12_words_prefixes_delays).prog [16]) (H := K12.hk) (ob := K12.ob) (M := 2000) (loose := K12.others) (d := HandSHeadRun.topDef (OpenLaw.row PySem.Challenge.rw_streamwrights_k12_words_prefixes_delays).prog 16) (kwd := []) K12.ob_eq
    (by kernel_rfl) (fun s => by kernel_rfl) K12.run (by kernel_rfl) (by kernel_rfl) (by kernel_rfl) (by rfl) (by first | assumption | decide +kernel) (by decide +kernel) ⟨rfl, rfl, rfl, rfl, rfl, by decide +kernel⟩ ?hw ?hc
  case hw => w_witness2
  case hc =>
    refine Sw.walkG (l := PySem.Challenge.rw_streamwrights_k12_words_prefixes_delays) (n := 63) (k := 5) (x := "_law_script") rfl (by decide) (by kernel_rfl) ⟨rfl, by decide, by decide⟩ ?F
    intro w mg fa h Y G hmg0
    obtain ⟨K, KX, c⟩ := Y
    have hmg : mg ("law" : PySem.Str) = some (.ref fa) := by
      have e : (HandSHeadRun.topDef (OpenLaw.row PySem.Challenge.rw_streamwrights_k12_words_prefixes_delays).prog 16).name = ("law" : PySem.Str) := by kernel_rfl
      rw [← e]
      exact hmg0
    obtain ⟨fd, hb, hF⟩ := K12.facts (P := (PySem.Challenge.rw_streamwrights_k12_words_prefixes_delays).prog) (w := w) KX G hmg c
    exact ⟨K, fd, K12.spLaw K, KX, hb, fun H a ns hl _ hS => ⟨a, ns, rfl, hS, hl, fun _ => rfl⟩, hF⟩
